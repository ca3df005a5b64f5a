import Derived.Test.YtbkhjeacmmbabaaGreatDoorJ19
namespace Go.Proofs.YtbkhjeacmmbabaaGreatDoor
set_option maxRecDepth 100000
set_option maxHeartbeats 4000000
open Go.RowKit
namespace RB
theorem hsz : (Tryz.prog.info? 5).map (·.size) = some 1 := by
 obtain ⟨i0, hi, hz0, hz1, hz2⟩ := info_parts zbj
 rw [hi]
 simp [hz1]
theorem zero_run (w : World) : (zeroValue 5).run Tryz.prog w = .ok (.int .u8 0) w := by
 obtain ⟨i0, hi, hz0, hz1, hz2⟩ := info_parts zbj
 simp [zeroValue, typeInfo, hi, hz0]
theorem size_run (w : World) : (Go.sizeOf 5).run Tryz.prog w = .ok 1 w := by
 obtain ⟨i0, hi, hz0, hz1, hz2⟩ := info_parts zbj
 simp [sizeOf, typeInfo, hi, hz1]
theorem over_no (w : World) (a b la ca lb cb oa ob kA kB : Nat) (hne : a ≠ b) (ha : RowE w a 5 kA) (hb : RowE w b 5 kB) (hkB : kB ≠ 0) :
  (callFunc 149 #[.slice (some ⟨a, oa, none⟩) la ca, .slice (some ⟨b, ob, none⟩) lb cb]).run Tryz.prog w = .ok (.value (.bool false)) w := by
 have sh : ∀ {g c : Nat}, RowE w g 5 c → w.shape? g = some (5, c) := by
  rintro g c ⟨cur, h1, h2⟩
  simp [World.shape?, h1, h2]
 rw [run_callFunc_extern Tryz.func149 (by kernel_rfl) (by kernel_rfl) (by kernel_rfl) (e := Extern.SlicesOverlaps.overlaps #[22, 22] #[4]) (by kernel_rfl),
  Lib.run_overlaps_apart w 22 4 5 Tryz.underlying22 1 size_run ⟨a, oa, none⟩ ⟨b, ob, none⟩ la ca lb cb hne 5 5 kA kB (sh ha) (sh hb) hkB (ha.free _) (ha.free _)]
 rfl
theorem copy_in (w : World) (ty : TypeId) (g c o dl dc so sl sc : Nat) (cs : List Value) (hr : RowE w g 5 c) (hl : cs.length = Nat.min sl dl) (ho : o + cs.length ≤ c) (hc : ∀ k v, cs[k]? = some v → w.cell? ⟨g, so + k, none⟩ = some v) (h1 : ∀ v ∈ cs, v.oneCell' = true) :
  (Builtin.copy_ #[22, 22] ty #[.slice (some ⟨g, o, none⟩) dl dc, .slice (some ⟨g, so, none⟩) sl sc]).run Tryz.prog w = .ok (goInt cs.length) (w.setCells g o cs) :=
 run_copy_cells w _ _ ty 5 g o dl dc ⟨g, so, none⟩ sl sc cs Tryz.underlying22 hsz hl (fun j v hj => by rw [Addr.add_lit]; exact hc j v hj) (fun j hj => hr.there (by omega)) (fun j _ => hr.free _) h1
theorem copy_of (w : World) (ty : TypeId) (g c o dl dc : Nat) (vv : Value) (m C : Nat) (ys : List Value) (hr : RowE w g 5 c) (hv : w.ownsRow C 5 1 vv m ys) (hml : m ≤ dl) (ho : o + m ≤ c) (h1 : ∀ v ∈ ys, v.oneCell' = true) :
  (Builtin.copy_ #[22, 22] ty #[.slice (some ⟨g, o, none⟩) dl dc, vv]).run Tryz.prog w = .ok (goInt (m : Int)) (w.setCells g o ys) := by
 have hyl := hv.1
 rcases hv.2 with ⟨rfl, h0⟩ | ⟨b, cap, cur, rfl, _⟩
 ·obtain rfl : ys = [] := List.eq_nil_of_length_eq_zero (by omega)
  subst h0
  exact run_copy_none w _ _ ty 5 _ _ dl dc 0 0 Tryz.underlying22 hsz (by simp)
 ·obtain ⟨_, _, _, _, hl, hc⟩ := zat hv
  have := run_copy_cells w 22 22 ty 5 g o dl dc ⟨b, 0, none⟩ m cap ys Tryz.underlying22 hsz (by rw [hl]; simp only [Nat.min_def]; split <;> omega) (fun j v hj => by rw [Addr.add_lit, Nat.zero_add]; exact hc j v hj) (fun j hj => hr.there (by omega)) (fun j _ => hr.free _) h1
  rwa [hl] at this
def To (w : World) (B : Nat) (v : Value) (n : Nat) (xs : List Value) (e : Ending) (w' : World) : Prop := ∃ ao c, e = .returned (.slice ao n c) ∧ Hid (w'.ownsRow B 5 1 (.slice ao n c) n xs) ∧ Hid (Gr w v w' (.slice ao n c))
theorem gr_in {w w' : World} {g n c n' c' : Nat} (h : w.grownBy w' (some g)) : Gr w (.slice (some ⟨g, 0, none⟩) n c) w' (.slice (some ⟨g, 0, none⟩) n' c') := ⟨h, .inl rfl⟩
theorem app_own {ops : Array Oper} {rest : List Oper} {o : Oper} {a : Act} {Q : Exit → Act → World → Prop} (w : World) (hgd : o.guard = none) (s x : Operand)
  (ho : o.op = .call { callee := .builtin .append, args := #[s, x], argTypes := #[22, 22] }) (B C n m : Nat) (xs ys : List Value) (v vv : Value) (hs : a.eval s = v) (hx : a.eval x = vv)
  (hown : w.ownsRow B 5 1 v n xs) (hv : w.ownsRow C 5 1 vv m ys) (h1 : ∀ u ∈ ys, u.oneCell' = true) (hb : n + m ≤ 1000000) (hbase : B ≤ w.heap.size)
  (h : ∀ ao c w', w'.ownsRow B 5 1 (.slice ao (n + m) c) (n + m) (xs ++ ys) → Gr w v w' (.slice ao (n + m) c) → wpList Tryz.prog ops Q rest (a.put o.dst (.slice ao (n + m) c)) w') : wpList Tryz.prog ops Q (o :: rest) a w := by
 obtain ⟨i0, hi, hz0, hz1, hz2⟩ := info_parts zbj
 have shp : ∀ {u : Value} {k : Nat} {zs : List Value} {w : World}, w.ownsRow B 5 1 u k zs → ∃ ao c, u = .slice ao k c := by
  intro u k zs w hu
  rcases hu.2 with ⟨rfl, h0⟩ | ⟨g, cap, cur, rfl, _⟩
  ·exact ⟨none, 0, by rw [h0]⟩
  ·exact ⟨_, _, rfl⟩
 have hyl := hv.1
 rcases hv.2 with ⟨rfl, h0⟩ | ⟨b, vcap, vcur, rfl, _⟩
 ·obtain rfl : ys = [] := List.eq_nil_of_length_eq_zero (by omega)
  subst h0
  obtain ⟨ao, c, rfl⟩ := shp hown
  exact wpList_append_own_none hgd s x 22 ho B 5 i0 1 Tryz.underlying22 hi _ n xs hs hown hx (h ao c w (by simpa using hown) (Gr.refl _ _))
 ·obtain ⟨_, _, _, _, hl, hc⟩ := zat hv
  refine wpList_append_own_at w hgd s x 22 ho B 5 i0 (.int .u8 0) 1 1 Tryz.underlying22 hi hz0 hz1 hz2 rfl (by decide) v n xs hs hown ⟨b, 0, none⟩ m vcap ys hx (by omega)
   (fun j u hu => by rw [Addr.add_lit, Nat.zero_add]; exact hc j u hu) h1 (by unfold maxLen; omega) (by omega) hbase ?_
  intro v' w' g1 g2 g3 g4
  obtain ⟨ao, c, rfl⟩ := shp g1
  exact h ao c w' g1 ⟨g2, g4.imp id fun e => ⟨_, e, Lr⟩⟩
theorem app_room (w : World) (ty : TypeId) (B C n m g cap : Nat) (xs ys : List Value) (vv : Value) (hown : w.ownsRow B 5 1 (.slice (some ⟨g, 0, none⟩) n cap) n xs) (hv : w.ownsRow C 5 1 vv m ys) (h1 : ∀ u ∈ ys, u.oneCell' = true) (hb : n + m ≤ 1000000) (hroom : n + m ≤ cap) (hbase : B ≤ w.heap.size) :
  ∃ w', (Builtin.append_ #[22, 22] ty #[.slice (some ⟨g, 0, none⟩) n cap, vv]).run Tryz.prog w = .ok (.slice (some ⟨g, 0, none⟩) (n + m) cap) w' ∧ w'.ownsRow B 5 1 (.slice (some ⟨g, 0, none⟩) (n + m) cap) (n + m) (xs ++ ys) ∧ w.grownBy w' (some g) := by
 obtain ⟨i0, hi, hz0, hz1, hz2⟩ := info_parts zbj
 have hyl := hv.1
 rcases hv.2 with ⟨rfl, h0⟩ | ⟨b, vcap, vcur, rfl, _⟩
 ·obtain rfl : ys = [] := List.eq_nil_of_length_eq_zero (by omega)
  subst h0
  refine ⟨w, ?_, by simpa using hown, zcx _ _⟩
  have := run_append_owned_none (P := Tryz.prog) (w := w) B 22 ty 5 i0 1 Tryz.underlying22 hi (.slice (some ⟨g, 0, none⟩) n cap) n xs hown
  simpa using this
 ·obtain ⟨_, _, _, _, hl, hc⟩ := zat hv
  have hnews : ∀ j u, ys[j]? = some u → w.cell? ((⟨b, 0, none⟩ : Addr).add j) = some u := fun j u hu => by rw [Addr.add_lit, Nat.zero_add]; exact hc j u hu
  obtain ⟨v', w', hr, g1, g2, g3, g4⟩ := run_append_own_at (P := Tryz.prog) w B 22 ty 5 i0 (.int .u8 0) 1 1 Tryz.underlying22 hi hz0 hz1 hz2 rfl (by decide) (.slice (some ⟨g, 0, none⟩) n cap) n xs hown ⟨b, 0, none⟩ m vcap ys (by omega) hnews h1 (by unfold maxLen; omega) (by omega) hbase
  obtain ⟨⟨cur, hcur, hcs⟩, _⟩ := zat hown
  have hr' := run_append_room (P := Tryz.prog) w 22 ty 5 i0 Tryz.underlying22 hi g n cap cur hcur ⟨b, 0, none⟩ m vcap ys (by rw [hz1]; omega) hnews h1 hroom (by rw [hz1]; omega)
  rw [hr] at hr'
  injection hr' with e1 e2
  subst e1
  exact ⟨w', hr, g1, g2⟩
theorem app_zeros (w : World) (ty : TypeId) (B n i k g cap : Nat) (xs : List Value) (hown : w.ownsRow B 5 1 (.slice (some ⟨g, 0, none⟩) n cap) n xs) (hi : i ≤ n) (hk : cap < i + k) (hb : i + k ≤ 1000000) :
  ∃ c w', (Builtin.append_ #[22, 3] ty #[.slice (some ⟨g, 0, none⟩) i cap, .int .i64 (k : Int)]).run Tryz.prog w = .ok (.slice (some ⟨w.heap.size, 0, none⟩) (i + k) c) w' ∧ RowE w' w.heap.size 5 c ∧ i + k ≤ c ∧ c ≤ maxLen ∧ (∀ t v, (xs.take i)[t]? = some v → w'.cell? ⟨w.heap.size, t, none⟩ = some v) ∧ Below w.heap.size w w' := by
 obtain ⟨i0, hi0, hz0, hz1, hz2⟩ := info_parts zbj
 obtain ⟨_, _, hnc, _, hl, hc⟩ := zat hown
 have hti : (xs.take i).length = i := by simp; omega
 have hold : (Builtin.firstCells i0.size i (.slice (some ⟨g, 0, none⟩) i cap)).run Tryz.prog w.drew = .ok (xs.take i).toArray w.drew := by
  rw [hz1]
  refine run_firstCells_some w.drew 1 i ⟨g, 0, none⟩ i cap (xs.take i) (by omega) (fun j v hj => ?_)
  rw [Addr.add_lit, Nat.zero_add]
  have hlt := (zH.1 hj).1
  rw [List.getElem?_take_of_lt (by omega)] at hj
  exact hc j v hj
 have hge := grownCap_ge w (i + k) cap 5
 have hle := grownCap_le_maxLen w (i + k) cap 5 (by unfold maxLen; omega)
 have hr := Lib.run_append_grow_zeros (P := Tryz.prog) w 22 3 ty 5 i0 (.int .u8 0) .i64 .i64 Tryz.underlying22 Tryz.underlying3 hi0 hz0 (some ⟨g, 0, none⟩) i cap (xs.take i) hold k (by omega) (by rw [hz1]; decide) hk (by omega) (by rw [hz2]; omega) (by rw [hz2]; exact growslice_fits hk (by omega))
 refine ⟨_, _, hr, ⟨_, heap_alloc_last w.drew _, ?_⟩, hge, hle, fun t v ht => ?_, Br.drew.alloc Lr _⟩
 ·simp [Builtin.zeroCells, Value.cells]
  omega
 ·have hlt := (zH.1 ht).1
  have e : (w.drew.alloc (.cells ((xs.take i).toArray ++ Builtin.zeroCells (Value.int .u8 0).cells k ++ Builtin.zeroCells (Value.int .u8 0).cells (grownCap w (i + k) cap 5 - (i + k))) 5)).heap[w.heap.size]? = some (.cells ((xs.take i).toArray ++ Builtin.zeroCells (Value.int .u8 0).cells k ++ Builtin.zeroCells (Value.int .u8 0).cells (grownCap w (i + k) cap 5 - (i + k))) 5 (0, 0)) := heap_alloc_last w.drew _
  rw [cell_of_row _ _ _ _ _ _ e, Array.append_assoc, Array.getElem?_append_left (by simpa using hlt)]
  simpa using ht
theorem ins_end (w : World) (B C n m : Nat) (v vv : Value) (xs ys : List Value) (hs : w.ownsRow B 5 1 v n xs) (hv : w.ownsRow C 5 1 vv m ys) (hy1 : ∀ u ∈ ys, u.oneCell' = true) (hb : n + m ≤ 1000000) (hB : B ≤ w.heap.size) (hm : 0 < m) :
  Calls Tryz.prog 148 #[v, .int .i64 (n : Int), vv] w (To w B v (n + m) (xs ++ ys)) := by
 have hm1 : ¬ (m : Int) = 0 := by omega
 have HS := zaa hs
 have HV := zaa hv
 have HY := zaa hy1
 obtain ⟨b, vc, rfl⟩ : ∃ b vc, vv = .slice (some ⟨b, 0, none⟩) m vc := by
  rcases hv.2 with ⟨_, h0⟩ | ⟨b, cap, cur, e, _⟩
  ·omega
  ·exact ⟨b, cap, e⟩
 rcases hs.2 with ⟨rfl, rfl⟩ | ⟨g, c, cur, rfl, _, _, hnc, _⟩
 ·clear hs hv hy1
  rw [Nat.zero_add]
  go_enter Tryz.func148, Tryz.ntmps148
  go_wp2_with (at_builtin; refine app_own _ rfl _ _ rfl B C 0 m xs ys _ _ rfl rfl HS.out HV.out HY.out hb hB ?_; refine Hid.out ?_)
  apply zaa
  intro ao c w' h1 h2
  have H1 := zaa h1
  have H2 := zaa h2
  clear h1 h2
  go_wp2
  go_ret
  exact ⟨ao, c, rfl, H1, H2⟩
 ·clear hs hv hy1
  by_cases hc : c = n
  ·subst hc
   go_enter Tryz.func148, Tryz.ntmps148
   go_wp2_with (at_builtin; refine app_own _ rfl _ _ rfl B C _ m xs ys _ _ rfl rfl HS.out HV.out HY.out hb hB ?_; refine Hid.out ?_)
   apply zaa
   intro ao c w' h1 h2
   have H1 := zaa h1
   have H2 := zaa h2
   clear h1 h2
   go_wp2
   go_ret
   exact ⟨ao, c, rfl, H1, H2⟩
  ·go_enter Tryz.func148, Tryz.ntmps148
   go_wp2_with (at_builtin; refine app_own _ rfl _ _ rfl B C n m xs ys _ _ rfl rfl HS.out HV.out HY.out hb hB ?_; refine Hid.out ?_)
   apply zaa
   intro ao c w' h1 h2
   have H1 := zaa h1
   have H2 := zaa h2
   clear h1 h2
   go_wp2
   go_ret
   exact ⟨ao, c, rfl, H1, H2⟩
theorem ins_grow (w : World) (B C n m i g c b vc : Nat) (xs ys : List Value) (hs : w.ownsRow B 5 1 (.slice (some ⟨g, 0, none⟩) n c) n xs) (hv : w.ownsRow C 5 1 (.slice (some ⟨b, 0, none⟩) m vc) m ys) (hx1 : ∀ u ∈ xs, u.oneCell' = true) (hy1 : ∀ u ∈ ys, u.oneCell' = true) (hi : i < n) (hb : n + m ≤ 1000000) (hB : B ≤ w.heap.size) (hm : 0 < m) (hg : c < n + m) :
  Calls Tryz.prog 148 #[.slice (some ⟨g, 0, none⟩) n c, .int .i64 (i : Int), .slice (some ⟨b, 0, none⟩) m vc] w (To w B (.slice (some ⟨g, 0, none⟩) n c) (n + m) (xs.take i ++ ys ++ xs.drop i)) := by
 obtain ⟨hrow, hgB, hnc, hcm, hxl, hxc⟩ := zat hs
 obtain ⟨_, _, hmv, _, hyl, hyc⟩ := zat hv
 have hm1 : ¬ (m : Int) = 0 := by omega
 have hin : ¬ (i : Int) = (n : Int) := by omega
 have hci : ¬ c = i := by omega
 have hgI : (c : Int) < (n : Int) + (m : Int) := by omega
 obtain ⟨k, hk⟩ : ∃ k : Nat, n + m - i = k := ⟨_, rfl⟩
 have hkI : (n : Int) + (m : Int) - (i : Int) = (k : Int) := by omega
 obtain ⟨c2, w1, hr, hrow1, hkc, hcm1, hcell1, hb1⟩ := app_zeros w 22 B n i k g c xs hs (by omega) (by omega) (by omega)
 obtain ⟨G, hG⟩ : ∃ G, w.heap.size = G := ⟨_, rfl⟩
 have hgG : g ≠ G := by have := hrow.lt; omega
 have hrow1' : RowE w1 G 5 c2 := by rw [← hG]; exact hrow1
 have hv1 : w1.ownsRow C 5 1 (.slice (some ⟨b, 0, none⟩) m vc) m ys := World.ownsRow.kept (row := none) hv ⟨hb1.os, hb1.tape, hb1.output, hb1.size, fun z hz _ => hb1.block z hz⟩ (.inr (by simp [Value.ownBlock]))
 have hcp1 := copy_of w1 3 G c2 i k (c2 - i) (.slice (some ⟨b, 0, none⟩) m vc) m C ys hrow1' hv1 (by omega) (by omega) hy1
 obtain ⟨w2, hw2⟩ : ∃ w2, w1.setCells G i ys = w2 := ⟨_, rfl⟩
 rw [hw2] at hcp1
 have hrow2 : RowE w2 G 5 c2 := by rw [← hw2]; exact RowE.sets _ _ _ hrow1'
 have hdl : (xs.drop i).length = n - i := by simp; omega
 have hold : w2.heap[g]? = w.heap[g]? := by
  rw [← hw2, World.heap_setCells_other _ _ _ _ (zO hrow.lt hb1.size) hgG]
  exact hb1.block g hrow.lt
 have hcp2 : Hid (∀ q ty dl dc sl sc, Nat.min sl dl = n - i → (Builtin.copy_ #[22, 22] ty #[.slice (some ⟨G, i + m, none⟩) dl dc, .slice (some ⟨g, i, none⟩) sl sc]).run Tryz.prog (w2.drewN q) = .ok (goInt (xs.drop i).length) ((w2.drewN q).setCells G (i + m) (xs.drop i))) := zaa fun q ty dl dc sl sc hmin =>
  run_copy_cells (w2.drewN q) _ _ ty 5 G (i + m) dl dc ⟨g, i, none⟩ sl sc (xs.drop i) Tryz.underlying22 hsz (by rw [hdl, hmin])
   (fun j v hj => by
    rw [Addr.add_lit]
    have : (w2.drewN q).cell? ⟨g, i + j, none⟩ = w.cell? ⟨g, i + j, none⟩ := World.cell?_of_block (a := ⟨g, i + j, none⟩) hold
    rw [this]
    exact hxc (i + j) v (by rwa [List.getElem?_drop] at hj))
   (fun j hj => (hrow2.drewN q).there (by omega)) (fun j _ => (hrow2.drewN q).free _) (fun v hv => hx1 v (List.mem_of_mem_drop hv))
 have HEND : Hid (∀ q, ((w2.drewN q).setCells G (i + m) (xs.drop i)).ownsRow B 5 1 (.slice (some ⟨G, 0, none⟩) (i + k) c2) (i + k) (xs.take i ++ ys ++ xs.drop i) ∧ Below w.heap.size w ((w2.drewN q).setCells G (i + m) (xs.drop i))) := zaa fun q => by
  refine ⟨RowE.own (RowE.sets _ _ _ (hrow2.drewN q)) hcm1 (by omega) hkc (by rw [zdr hxl hyl Lr (by omega)]; omega) (moved hxl hyl Lr (by omega) (fun t ht => ?_) (fun t ht => ?_) (fun t ht => ?_)), ?_⟩
  ·rw [(hrow2.drewN q).cell _ _ (by omega), if_neg (by omega)]
   show w2.cell? _ = _
   rw [← hw2, hrow1'.cell _ _ (by omega), if_neg (by omega)]
   have e1 : xs[t]? = some (xs[t]'(by omega)) := zI _
   rw [e1]
   have := hcell1 t _ (by rw [List.getElem?_take_of_lt ht, e1])
   rw [hG] at this
   exact this
  ·rw [(hrow2.drewN q).cell _ _ (by omega), if_neg (by omega)]
   show w2.cell? _ = _
   rw [← hw2, hrow1'.cell _ _ (by omega), if_pos (by omega), Nat.add_sub_cancel_left]
  ·rw [(hrow2.drewN q).cell _ _ (by omega), if_pos (by omega), Nat.add_sub_cancel_left, List.getElem?_drop]
  ·have h1 := zaz G (xs.drop i) (i + m) (w2.drewN q)
   have h2 := zaz G ys i w1
   rw [hw2] at h2
   refine ⟨h1.os.trans (h2.os.trans hb1.os), h1.tape.trans (h2.tape.trans hb1.tape), h1.output.trans (h2.output.trans hb1.output), zN hb1.size (zN h2.size h1.size), fun z hz => ?_⟩
   have hzG : some z ≠ some G := by intro e; injection e with e; omega
   exact (h1.block z (zO hz (zN hb1.size h2.size)) hzG).trans ((h2.block z (zO hz hb1.size) hzG).trans (hb1.block z hz))
 have hki : (i : Int) ≤ (k : Int) + (i : Int) := by omega
 have hc2i : ¬ c2 = i := by omega
 have hc2m : ¬ c2 = i + m := by omega
 have himI : (i : Int) + (m : Int) ≤ (i : Int) + (k : Int) := by omega
 have hEQ : i + k = n + m := by omega
 rw [hG] at hr
 rw [hEQ] at hr HEND
 have e1 : n + m - i = k := hk
 have e2 : n + m - (i + m) = k - m := by omega
 clear hs hv hx1 hy1 hrow hxc hyc hrow1 hrow1' hv1 hold hrow2 hcell1 hb1 hw2 hxl hyl hdl hk
 go_enter Tryz.func148, Tryz.ntmps148
 go_wp2_with (at_builtin; refine zcd rfl _ _ _ _ rfl _ _ rfl rfl hr ?_; refine Hid.out ?_)
 apply zaa
 clear hr
 go_wp2_with fail
 clear hcp1
 have hw1 : IntKind.i64.wrap ((i : Int) + (m : Int)) = (i : Int) + (m : Int) := by rw [IntKind.wrap_i64]; omega
 have hb1 : (0 : Int) ≤ (i : Int) + (m : Int) := by omega
 have htn : ((i : Int) + (m : Int)).toNat = i + m := by omega
 have hb3 : (i : Int) + (m : Int) ≤ (n : Int) + (m : Int) := by omega
 have hb4 : (i : Int) ≤ (n : Int) := by omega
 have hb5 : i ≤ n := by omega
 have hcpD : (Builtin.copy_ #[22, 22] 3 #[.slice (some ⟨G, i + m, none⟩) (k - m) (c2 - (i + m)), .slice (some ⟨g, i, none⟩) (n - i) (c - i)]).run Tryz.prog w2.drew = .ok (goInt (xs.drop i).length) (w2.drew.setCells G (i + m) (xs.drop i)) := hcp2.out 1 3 (k - m) (c2 - (i + m)) (n - i) (c - i) (by simp only [Nat.min_def]; split <;> omega)
 have HE1 := zaa (HEND.out 1)
 obtain ⟨w3, hw3⟩ : ∃ w3, w2.drew.setCells G (i + m) (xs.drop i) = w3 := ⟨_, rfl⟩
 have hw3' : (w2.drewN 1).setCells G (i + m) (xs.drop i) = w3 := hw3
 rw [hw3'] at HE1
 rw [hw3] at hcpD
 clear hw3 hw3' hcp2 HEND
 go_region
 go_wp2
 go_ret
 refine ⟨some ⟨G, 0, none⟩, c2, rfl, zaa HE1.out.1, zaa ⟨?_, .inr ⟨G, rfl, by omega⟩⟩⟩
 have hbe := HE1.out.2
 exact ⟨hbe.os, hbe.tape, hbe.output, hbe.size, fun z hz _ => hbe.block z hz⟩
theorem own_take {w : World} {B n i g c : Nat} {xs : List Value} (h : w.ownsRow B 5 1 (.slice (some ⟨g, 0, none⟩) n c) n xs) (hi : i ≤ n) : w.ownsRow B 5 1 (.slice (some ⟨g, 0, none⟩) i c) i (xs.take i) := by
 obtain ⟨hrow, hgB, hnc, hcm, hxl, hxc⟩ := zat h
 refine hrow.own hcm hgB (by omega) (by simp; omega) (fun t v hv => ?_)
 have hlt := (zH.1 hv).1
 have hti : t < i := by simp at hlt; omega
 rw [List.getElem?_take_of_lt hti] at hv
 exact hxc t v hv
theorem ins_shift (w : World) (B C n m i g c b vc : Nat) (xs ys : List Value) (hs : w.ownsRow B 5 1 (.slice (some ⟨g, 0, none⟩) n c) n xs) (hv : w.ownsRow C 5 1 (.slice (some ⟨b, 0, none⟩) m vc) m ys) (hx1 : ∀ u ∈ xs, u.oneCell' = true) (hy1 : ∀ u ∈ ys, u.oneCell' = true) (hne : b ≠ g) (hi : i < n) (hb : n + m ≤ 1000000) (hm : 0 < m) (hg : n + m ≤ c) :
  Calls Tryz.prog 148 #[.slice (some ⟨g, 0, none⟩) n c, .int .i64 (i : Int), .slice (some ⟨b, 0, none⟩) m vc] w (To w B (.slice (some ⟨g, 0, none⟩) n c) (n + m) (xs.take i ++ ys ++ xs.drop i)) := by
 obtain ⟨hrow, hgB, hnc, hcm, hxl, hxc⟩ := zat hs
 obtain ⟨hrowv, _, hmv, _, hyl, hyc⟩ := zat hv
 have hm1 : ¬ (m : Int) = 0 := by omega
 have hin : ¬ (i : Int) = (n : Int) := by omega
 have hci : ¬ c = i := by omega
 have hcim : ¬ c = i + m := by omega
 have hgI : ¬ (c : Int) < (n : Int) + (m : Int) := by omega
 have hgI2 : (n : Int) + (m : Int) ≤ (c : Int) := by omega
 have hdl : (xs.drop i).length = n - i := by simp; omega
 have hrowd : RowE w.drew g 5 c := hrow
 have hov : ∀ lb cb, (callFunc 149 #[.slice (some ⟨b, 0, none⟩) m vc, .slice (some ⟨g, i + m, none⟩) lb cb]).run Tryz.prog w = .ok (.value (.bool false)) w := fun lb cb => over_no w b g m vc lb cb 0 (i + m) vc c hne hrowv hrow (by omega)
 have hcpD : (Builtin.copy_ #[22, 22] 3 #[.slice (some ⟨g, i + m, none⟩) (n - i) (c - (i + m)), .slice (some ⟨g, i, none⟩) (n + m - i) (c - i)]).run Tryz.prog w.drew = .ok (goInt (xs.drop i).length) (w.drew.setCells g (i + m) (xs.drop i)) :=
  copy_in w.drew 3 g c (i + m) (n - i) (c - (i + m)) i (n + m - i) (c - i) (xs.drop i) (hrow.drewN 1) (by rw [hdl]; simp only [Nat.min_def]; split <;> omega) (by omega) (fun k v hk => hxc (i + k) v (by rwa [List.getElem?_drop] at hk)) (fun v hv => hx1 v (List.mem_of_mem_drop hv))
 obtain ⟨w1, hw1⟩ : ∃ w1, w.drew.setCells g (i + m) (xs.drop i) = w1 := ⟨_, rfl⟩
 rw [hw1] at hcpD
 have hg1 : w.grownBy w1 (some g) := by rw [← hw1]; exact zbr (zcl (zcx w _)) (zaz g _ _ _)
 have hrow1 : RowE w1 g 5 c := by rw [← hw1]; exact RowE.sets _ _ _ (hrow.drewN 1)
 have hv1 : w1.ownsRow C 5 1 (.slice (some ⟨b, 0, none⟩) m vc) m ys := World.ownsRow.kept hv hg1 (.inr (by simp [Value.ownBlock]; exact hne))
 have hcp2 := copy_of w1 3 g c i (n + m - i) (c - i) (.slice (some ⟨b, 0, none⟩) m vc) m C ys hrow1 hv1 (by omega) (by omega) hy1
 obtain ⟨w2, hw2⟩ : ∃ w2, w1.setCells g i ys = w2 := ⟨_, rfl⟩
 rw [hw2] at hcp2
 have HE : Hid (w2.ownsRow B 5 1 (.slice (some ⟨g, 0, none⟩) (n + m) c) (n + m) (xs.take i ++ ys ++ xs.drop i) ∧ w.grownBy w2 (some g)) := zaa (by
  rw [← hw2]
  refine ⟨RowE.own (RowE.sets _ _ _ hrow1) hcm hgB hg (by rw [zdr hxl hyl Lr (by omega)]; omega) (moved hxl hyl Lr (by omega) (fun t ht => ?_) (fun t ht => ?_) (fun t ht => ?_)), zbr hg1 (zaz g _ _ _)⟩
  ·rw [hrow1.cell _ _ (by omega), if_neg (by omega), ← hw1, hrowd.cell _ _ (by omega), if_neg (by omega)]
   have e1 : xs[t]? = some (xs[t]'(by omega)) := zI _
   rw [e1]
   exact hxc t _ e1
  ·rw [hrow1.cell _ _ (by omega), if_pos (by omega), Nat.add_sub_cancel_left]
  ·rw [hrow1.cell _ _ (by omega), if_neg (by omega), ← hw1, hrowd.cell _ _ (by omega), if_pos (by omega), Nat.add_sub_cancel_left, List.getElem?_drop])
 have hwi : IntKind.i64.wrap ((i : Int) + (m : Int)) = (i : Int) + (m : Int) := by rw [IntKind.wrap_i64]; omega
 have hb1 : (0 : Int) ≤ (i : Int) + (m : Int) := by omega
 have htn : ((i : Int) + (m : Int)).toNat = i + m := by omega
 have hb3 : (i : Int) + (m : Int) ≤ (n : Int) + (m : Int) := by omega
 have hb4 : (i : Int) ≤ (n : Int) + (m : Int) := by omega
 have hb5 : i ≤ n := by omega
 have hb6 : i ≤ n + m := by omega
 have e2 : n + m - (i + m) = n - i := by omega
 clear hs hv hx1 hy1 hrow hrowd hrowv hxc hyc hrow1 hv1 hw1 hw2 hxl hyl hdl hg1
 go_enter Tryz.func148, Tryz.ntmps148
 go_wp2_with (simp only [hov])
 go_region
 go_wp2
 go_ret
 exact ⟨some ⟨g, 0, none⟩, c, rfl, zaa HE.out.1, zaa (gr_in HE.out.2)⟩
theorem ins_any (w : World) (B C n m i : Nat) (v vv : Value) (xs ys : List Value) (hs : w.ownsRow B 5 1 v n xs) (hv : w.ownsRow C 5 1 vv m ys) (hx1 : ∀ u ∈ xs, u.oneCell' = true) (hy1 : ∀ u ∈ ys, u.oneCell' = true) (hne : vv.ownBlock = none ∨ vv.ownBlock ≠ v.ownBlock) (hi : i ≤ n) (hb : n + m ≤ 1000000) (hB : B ≤ w.heap.size) (hm : 0 < m) :
  Calls Tryz.prog 148 #[v, .int .i64 (i : Int), vv] w (To w B v (n + m) (xs.take i ++ ys ++ xs.drop i)) := by
 have hxl := hs.1
 by_cases hin : i = n
 ·subst hin
  have := ins_end w B C i m v vv xs ys hs hv hy1 hb hB hm
  rwa [List.take_of_length_le (by omega), List.drop_eq_nil_of_le (by omega), List.append_nil]
 ·rcases hs.2 with ⟨_, h0⟩ | ⟨g, c, cur, rfl, _⟩
  ·omega
  rcases hv.2 with ⟨_, h0⟩ | ⟨b, vc, vcur, rfl, _⟩
  ·omega
  by_cases hg : n + m ≤ c
  ·refine ins_shift w B C n m i g c b vc xs ys hs hv hx1 hy1 ?_ (by omega) hb hm hg
   rcases hne with e | e
   ·cases e
   ·exact fun e2 => e (by rw [e2]; rfl)
  ·exact ins_grow w B C n m i g c b vc xs ys hs hv hx1 hy1 (by omega) hb hB hm (by omega)
end RB
end Go.Proofs.YtbkhjeacmmbabaaGreatDoor
