import Derived.Test.YtfgffajgfgifhaaGreatDoorJ13
import Derived.Deep.DeepCutAuto
import Derived.Deep.CutRange
import Derived.Deep.RegionHeld
import Derived.Lib.LazyBuf
namespace Go.Proofs.YtfgffajgfgifhaaGreatDoor
set_option maxRecDepth 100000
set_option maxHeartbeats 4000000
open Go.RowKit
theorem zT {P : Program} {ops : Array Oper} {Q : Exit → Act → World → Prop} {md : Region.Mode} {S : World → Prop} {i : Nat} {oi : Oper} {v : Value} {fuel : Nat} {listed : Array Bool} {a : Act} {w : World} (hi : ops[i]? = some oi) (hv : ∀ w, S w → (execOp a.eval oi).run P w = .ok (.value v) w) (hQ : ∀ c a w, Q (.panic c) (a.put oi.dst v) w → Q (.panic c) a w) (h : wpAnyH P md ops Q S fuel (listed.setIfInBounds i true) (a.put oi.dst v) w) (hs : Region.noSelect ops = true := by kernel_rfl) (hf : Region.free md ops listed i = true := by kernel_rfl) (hr : (Region.ready md ops listed).contains i = true := by kernel_rfl) (hw : Region.wanted oi (yielded ops a.tmps) = true := by rfl) (hS : S w := by assumption) : wpAnyH P md ops Q S (fuel + 1) listed a w := wpAnyH_take hi hs hf hr hQ (Or.inl ⟨hw, hv⟩) hS h
theorem zU {P : Program} {ops : Array Oper} {Q : Exit → Act → World → Prop} {md : Region.Mode} {S : World → Prop} {i : Nat} {oi : Oper} {fuel : Nat} {listed : Array Bool} {a : Act} {w : World} (hi : ops[i]? = some oi) (hQ : ∀ c a w, Q (.panic c) (a.put oi.dst undef) w → Q (.panic c) a w) (h : wpAnyH P md ops Q S fuel (listed.setIfInBounds i true) (a.put oi.dst undef) w) (hs : Region.noSelect ops = true := by kernel_rfl) (hf : Region.free md ops listed i = true := by kernel_rfl) (hr : (Region.ready md ops listed).contains i = true := by kernel_rfl) (hw : Region.wanted oi (yielded ops a.tmps) = false := by rfl) (hS : S w := by assumption) : wpAnyH P md ops Q S (fuel + 1) listed a w := wpAnyH_take hi hs hf hr hQ (Or.inr ⟨hw, rfl⟩) hS h
theorem zV {P : Program} {ops : Array Oper} {Q : Exit → Act → World → Prop} {md : Region.Mode} {S : World → Prop} {fuel : Nat} {listed : Array Bool} {a : Act} {w : World} {i : Nat} {o : Oper} (ho : ops[i]? = some o) (h : ∀ K' : Act → World → Prop, Shut (∀ a w, S w → (S w → wpAnyH P md ops Q S fuel (listed.setIfInBounds i true) a w) → K' a w) → if Region.wanted o (yielded ops a.tmps) = true then Oper.wp P o a w K' Q else K' (a.put o.dst undef) w) : AllReadyH P md ops Q S fuel listed a w [i] := AllReadyH.cons ho h AllReadyH.nil
theorem zY {P : Program} {ops : Array Oper} {Q : Exit → Act → World → Prop} {md : Region.Mode} {S : World → Prop} {fuel : Nat} {listed : Array Bool} {a : Act} {w : World} {i : Nat} {o : Oper} (ho : ops[i]? = some o) (h : ∀ K' : Act → World → Prop, Shut (∀ a w, S w → (S w → wpAnyH P md ops Q S fuel (listed.setIfInBounds i true) a w) → K' a w) → if Region.wanted o (yielded ops a.tmps) = true then Oper.wp P o a w K' Q else K' (a.put o.dst undef) w) (hr : Region.ready md ops listed = [i] := by kernel_rfl) : wpAnyH P md ops Q S (fuel + 1) listed a w := wpAnyH_ready hr (by simp) (zV ho h)
theorem copyE_run (w : World) (ty : TypeId) (g o dl dc : Nat) (a : Addr) (sl sc : Nat) (cs : List Value) (hn : cs.length = Nat.min sl dl * 6)
  (hsrc : ∀ j v, cs[j]? = some v → w.cell? (a.add j) = some v) (hc : ∀ j, j < cs.length → (w.cell? ⟨g, o + j, none⟩).isSome = true) (hf : ∀ j, j < cs.length → w.frozen? ⟨g, o + j, none⟩ = false) (h1 : ∀ v ∈ cs, v.oneCell' = true) :
  (Builtin.copy_ #[75, 75] ty #[.slice (some ⟨g, o, none⟩) dl dc, .slice (some a) sl sc]).run Tryz.prog w = .ok (goInt (Nat.min sl dl : Nat)) (w.setCells g o cs) := by
 obtain ⟨ic, hic, hz0, hz1, hz2⟩ := info_parts infoE
 have hl := run_loadCells_list (P := Tryz.prog) w a cs hsrc
 have hst := run_storeCells_cells (P := Tryz.prog) g o cs 0 w (by simpa using hc) (by simpa using hf) h1
 simp [Builtin.copy_, run_underlying Tryz.underlying75, Builtin.lenOf, Builtin.firstCells, sizeOf, typeInfo, hic, hz1, ← hn, hl, hst]
structure OwE (w : World) (g n : Nat) (xs : List Value) : Prop where
 row : zah w g n
 len : xs.length = n * 6
 at_ : ∀ j u, xs[j]? = some u → w.cell? ⟨g, j, none⟩ = some u
 one : ∀ u ∈ xs, u.oneCell' = true
theorem below_sets (B g o : Nat) (vs : List Value) (w : World) (hg : B ≤ g) (hB : B ≤ w.heap.size) : Below B w (w.setCells g o vs) := by
 have h := zas g vs o w
 exact ⟨h.os, h.tape, h.output, h.size, fun k hk => h.block k (by omega) (by intro e; injection e with e; omega)⟩
theorem insE_mid (u : World) (g sn i : Nat) (xs ys : List Value) (h : OwE u g sn xs) (hi : i < sn) (hsn : sn ≤ 65535) (b bc : Nat) (hy : ys.length = 6) (hyo : ∀ v ∈ ys, v.oneCell' = true) (hyc : ∀ j v, ys[j]? = some v → u.cell? ⟨b, j, none⟩ = some v) :
  Calls Tryz.prog 125 #[.slice (some ⟨g, 0, none⟩) sn sn, .int .i64 (i : Int), .slice (some ⟨b, 0, none⟩) 1 bc] u fun e w' => ∃ g' c', e = .returned (.slice (some ⟨g', 0, none⟩) (sn + 1) c') ∧ Hid ((u.heap.size ≤ g' ∧ sn + 1 ≤ c') ∧ ∀ j v, (xs.take (i * 6) ++ ys ++ xs.drop (i * 6))[j]? = some v → w'.cell? ⟨g', j, none⟩ = some v) ∧ Hid (Below u.heap.size u w') := by
 obtain ⟨ic, hic, hz0, hz1, hz2⟩ := info_parts infoE
 have hge := grownCap_ge u (sn + 1) sn 78
 have hle := grownCap_le_maxLen u (sn + 1) sn 78 (by unfold maxLen; omega)
 generalize hcg : grownCap u (sn + 1) sn 78 = c' at *
 obtain ⟨cur, hcur⟩ : ∃ cur : Array Value, ((xs.take (i * 6)).toArray ++ Builtin.zeroCells (Value.agg #[.slice none 0 0, .slice none 0 0, .int .i64 0, .slice none 0 0, .int .i64 0, .int .i64 0]).cells (sn + 1 - i) ++ Builtin.zeroCells (Value.agg #[.slice none 0 0, .slice none 0 0, .int .i64 0, .slice none 0 0, .int .i64 0, .int .i64 0]).cells (c' - (sn + 1))) = cur := ⟨_, rfl⟩
 obtain ⟨w1, hw1⟩ : ∃ w1, u.drew.alloc (.cells cur 78) = w1 := ⟨_, rfl⟩
 have hr : ∀ ty, (Builtin.append_ #[75, 3] ty #[.slice (some ⟨g, 0, none⟩) i sn, .int .i64 ((sn : Int) + 1 - (i : Int))]).run Tryz.prog u = .ok (.slice (some ⟨u.heap.size, 0, none⟩) (sn + 1) c') w1 := fun ty => by
  have h1 := Lib.run_append_grow_zeros (P := Tryz.prog) u 75 3 ty 78 ic _ .i64 .i64 Tryz.underlying75 Tryz.underlying3 hic hz0 (some ⟨g, 0, none⟩) i sn (xs.take (i * 6))
   (run_firstCells_some (P := Tryz.prog) u.drew ic.size i ⟨g, 0, none⟩ i sn (xs.take (i * 6)) (by rw [hz1, zJ, h.len]; omega) (fun j v hj => by
    rw [Addr.add_lit, Nat.zero_add]
    exact h.at_ j v (by rw [List.getElem?_take] at hj; split at hj <;> first | exact hj | cases hj))) (sn + 1 - i) (by omega) (by omega) (by omega) (by omega) (by rw [hz2]; omega) (by rw [show i + (sn + 1 - i) = sn + 1 by omega]; exact growslice_fits (by omega) (by rw [hz2]; omega))
  rw [show i + (sn + 1 - i) = sn + 1 by omega, hcg, hcur, hw1] at h1
  rw [show ((sn : Int) + 1 - (i : Int)) = ((sn + 1 - i : Nat) : Int) by omega]
  exact h1
 obtain ⟨g', hg'⟩ : ∃ g', u.heap.size = g' := ⟨_, rfl⟩
 rw [hg'] at hr
 have HR1 : Hid (zah w1 g' c' ∧ Below u.heap.size u w1 ∧ ∀ j v, (xs.take (i * 6))[j]? = some v → w1.cell? ⟨g', j, none⟩ = some v) := zaa (by
  have hrow : w1.heap[g']? = some (.cells cur 78 (0, 0)) := by rw [← hw1, ← hg']; exact heap_alloc_new u.drew _
  refine ⟨⟨_, hrow, ?_⟩, by rw [← hw1]; exact zac Br.drew Lr _, fun j v hj => ?_⟩
  ·rw [← hcur, Array.size_append, Array.size_append, size_zeroCells, size_zeroCells]
   simp only [List.size_toArray, zJ, h.len]
   show min (i * 6) (sn * 6) + (sn + 1 - i) * 6 + (c' - (sn + 1)) * 6 = 6 * c'
   omega
  ·rw [cell_of_row _ _ _ _ _ _ hrow, ← hcur]
   rw [Array.append_assoc, Array.getElem?_append_left (by simpa using (zH.1 hj).1)]
   simpa using hj)
 have hiI : (i : Int) < (sn : Int) := by omega
 have hsI : (sn : Int) ≤ 65535 := by omega
 have hcI : ((sn : Int) + 1) ≤ (c' : Int) := by omega
 have HOW := zaa h
 have HN : Hid (i ≤ sn ∧ ¬ sn = i ∧ (0 ≤ (i : Int) + 1 ∧ i ≤ sn) ∧ ¬ c' = i + 1) := zaa ⟨by omega, by omega, ⟨by omega, by omega⟩, by omega⟩
 have HG := zaa hg'
 obtain ⟨w2, hw2⟩ : ∃ w2, w1.setCells g' (i * 6) ys = w2 := ⟨_, rfl⟩
 obtain ⟨w3, hw3⟩ : ∃ w3, w2.drew.setCells g' ((i + 1) * 6) (xs.drop (i * 6)) = w3 := ⟨_, rfl⟩
 have hb2 : Below u.heap.size u w2 := by
  rw [← hw2]
  exact HR1.out.2.1.trans (below_sets _ _ _ _ _ (by omega) HR1.out.2.1.size)
 have hrow2 : zah w2 g' c' := by rw [← hw2]; exact zah.sets _ _ _ HR1.out.1
 have k1 : ∀ ty, (Builtin.copy_ #[75, 75] ty #[.slice (some ⟨g', i * 6, none⟩) (sn + 1 - i) (c' - i), .slice (some ⟨b, 0, none⟩) 1 bc]).run Tryz.prog w1 = .ok (goInt 1) w2 := fun ty => by
  have e : Nat.min 1 (sn + 1 - i) = 1 := Nat.min_eq_left (by omega)
  have := copyE_run w1 ty g' (i * 6) (sn + 1 - i) (c' - i) ⟨b, 0, none⟩ 1 bc ys (by rw [e, hy]) (fun j v hj => by
   rw [Addr.add_lit, Nat.zero_add]
   have h1 := hyc j v hj
   exact (HR1.out.2.1.cell (p := ⟨b, j, none⟩) (World.block_lt_of_cell? u ⟨b, j, none⟩ (by rw [h1]))).trans h1) (fun j hj => HR1.out.1.cell _ (by omega)) (fun j _ => HR1.out.1.free _) hyo
  rw [e, hw2] at this
  exact this
 have k2 : ∀ ty, (Builtin.copy_ #[75, 75] ty #[.slice (some ⟨g', (i + 1) * 6, none⟩) (sn - i) (c' - (i + 1)), .slice (some ⟨g, i * 6, none⟩) (sn - i) (sn - i)]).run Tryz.prog w2.drew = .ok (goInt (sn - i : Nat)) w3 := fun ty => by
  have e : Nat.min (sn - i) (sn - i) = sn - i := Nat.min_eq_left (by omega)
  have := copyE_run w2.drew ty g' ((i + 1) * 6) (sn - i) (c' - (i + 1)) ⟨g, i * 6, none⟩ (sn - i) (sn - i) (xs.drop (i * 6)) (by rw [e, zK, h.len]; omega) (fun j v hj => by
   rw [Addr.add_lit]
   have h1 := h.at_ (i * 6 + j) v (by rw [List.getElem?_drop] at hj; exact hj)
   exact (hb2.drew.cell (p := ⟨g, i * 6 + j, none⟩) (World.block_lt_of_cell? u ⟨g, i * 6 + j, none⟩ (by rw [h1]))).trans h1) (fun j hj => (show zah w2.drew g' c' from hrow2).cell _ (by rw [zK, h.len] at hj; omega)) (fun j _ => (show zah w2.drew g' c' from hrow2).free _) (fun v hv => h.one v (List.mem_of_mem_drop hv))
  rw [e, hw3] at this
  exact this
 have HFIN : Hid ((∀ j v, (xs.take (i * 6) ++ ys ++ xs.drop (i * 6))[j]? = some v → w3.cell? ⟨g', j, none⟩ = some v) ∧ Below u.heap.size u w3) := zaa (by
  have hl1 : (xs.take (i * 6)).length = i * 6 := by rw [zJ, h.len]; omega
  refine ⟨fun j v hj => ?_, ?_⟩
  ·rw [← hw3]
   by_cases h1 : j < i * 6
   ·rw [zM, zL (by omega)] at hj
    rw [World.cell?_setCells_out g' _ _ _ _ (fun _ _ => .inl (by simp only; omega))]
    show w2.cell? _ = _
    rw [← hw2, World.cell?_setCells_out g' _ _ _ _ (fun _ _ => .inl (by simp only; omega))]
    exact HR1.out.2.2 j v hj
   ·by_cases h2 : j < (i + 1) * 6
    ·rw [zL (by rw [zG]; omega), List.getElem?_append_right (by omega), hl1] at hj
     rw [World.cell?_setCells_out g' _ _ _ _ (fun _ _ => .inl (by simp only; omega))]
     show w2.cell? _ = _
     rw [← hw2]
     have h3 := World.cell?_setCells_in g' ys (i * 6) w1 (fun q hq => HR1.out.1.cell _ (by omega)) (j - i * 6) (by omega)
     rw [show i * 6 + (j - i * 6) = j by omega] at h3
     rw [h3, ← hj]
     exact (zI _).symm
    ·rw [List.getElem?_append_right (by rw [zG]; omega)] at hj
     have hjl := (zH.1 hj).1
     rw [zG, hl1, hy, zK, h.len] at hjl
     have h3 := World.cell?_setCells_in g' (xs.drop (i * 6)) ((i + 1) * 6) w2.drew (fun q hq => (show zah w2.drew g' c' from hrow2).cell _ (by rw [zK, h.len] at hq; omega)) (j - (i + 1) * 6) (by rw [zK, h.len]; omega)
     rw [show (i + 1) * 6 + (j - (i + 1) * 6) = j by omega] at h3
     rw [h3, ← hj, show j - ((xs.take (i * 6)) ++ ys).length = j - (i + 1) * 6 by rw [zG, hl1, hy]; omega]
     exact (zI _).symm
  ·rw [← hw3]
   exact hb2.drew.trans (below_sets _ _ _ _ _ (by omega) hb2.drew.size))
 clear hcg hw1 hle hcur hw2 hw3 hb2 hrow2
 go_enter Tryz.func125, Tryz.ntmps125
 go_upto_region 10 with (at_builtin; refine zdh rfl _ _ _ _ rfl _ _ rfl rfl (hr _) ?_)
 go_wp2_with fail
 refine wp_region_held_drew (S := fun _ => True ∧ True) (by kernel_rfl) ⟨trivial, trivial⟩ (fun hHeld => ?_)
 refine zT (i := 0) (v := ?_) rfl ?_ (fun _ _ _ h => h) ?_
 rotate_left
 ·(rintro w ⟨_, _⟩; go_simp; try with_reducible rfl)
 try simp only [Act.put, zA, zC, zD, zE, zF]
 refine zT (i := 1) (v := ?_) rfl ?_ (fun _ _ _ h => h) ?_
 rotate_left
 ·(rintro w ⟨_, _⟩; go_simp; try with_reducible rfl)
 try simp only [Act.put, zA, zB, zC, zD, zE, zF]
 refine zT (i := 2) (v := ?_) rfl ?_ (fun _ _ _ h => h) ?_
 rotate_left
 ·(rintro w ⟨_, _⟩; go_simp; try with_reducible rfl)
 try simp only [Act.put, zA, zB, zC, zD, zE, zF]
 refine wpAnyH_take (i := 3) (v := .int .i64 ((i + 1 : Nat) : Int)) rfl (by kernel_rfl) (by kernel_rfl) (by kernel_rfl) (fun _ _ _ h => h) (Or.inl ⟨by rfl, ?_⟩) (by assumption) ?_
 ·intro w hSw
  go_simp
  try (rw [show IntKind.i64.wrap ((i : Int) + 1) = (i : Int) + 1 by rw [IntKind.wrap_i64]; omega])
 try simp only [Act.put, zA, zB, zC, zD, zE, zF]
 refine zT (i := 4) (v := ?_) rfl ?_ (fun _ _ _ h => h) ?_
 rotate_left
 ·(intro w hSw; obtain ⟨_, _⟩ := hSw; go_simp; try (rw [if_pos HN.out.2.2.1, if_neg HN.out.2.2.2]); try (with_reducible rfl))
 try simp only [Act.put, zA, zB, zC, zD, zE, zF]
 refine zT (i := 5) (v := ?_) rfl ?_ (fun _ _ _ h => h) ?_
 rotate_left
 ·(rintro w ⟨_, _⟩; go_simp; try with_reducible rfl)
 try simp only [Act.put, zA, zB, zC, zD, zE, zF]
 refine zT (i := 6) (v := ?_) rfl ?_ (fun _ _ _ h => h) ?_
 rotate_left
 ·(rintro w ⟨_, _⟩; go_simp; try with_reducible rfl)
 try simp only [Act.put, zA, zB, zC, zD, zE, zF]
 refine zT (i := 7) (v := ?_) rfl ?_ (fun _ _ _ h => h) ?_
 rotate_left
 ·(intro w hSw; obtain ⟨_, _⟩ := hSw; go_simp; try (rw [if_pos HN.out.1, if_neg HN.out.2.1]); try (with_reducible rfl))
 try simp only [Act.put, zA, zB, zC, zD, zE, zF]
 refine zY (i := 8) rfl fun K hK => ?_
 refine copy_step rfl _ _ _ _ rfl _ _ (by rfl) (by rfl) (k2 _) ?_
 refine hK.out _ _ ⟨trivial, trivial⟩ (fun hHeld => ?_)
 clear hK K
 refine wpAnyH_done (by kernel_rfl) ?_ _
 clear hHeld k1 k2 hr
 go_wp2
 go_ret
 exact ⟨g', c', rfl, zaa ⟨⟨by have := HG.out; omega, by omega⟩, HFIN.out.1⟩, zaa HFIN.out.2⟩
theorem Cf.sets (g o : Nat) (vs : List Value) (w : World) : Cf (· = g) w (w.setCells g o vs) := by
 have h := zas g vs o w
 exact ⟨h.os, h.tape, h.output, h.size, fun k hk hg => h.block k hk (by intro e; injection e with e; exact hg e)⟩
theorem OwE.sets {w : World} {g n : Nat} {xs : List Value} (h : OwE w g n xs) (o : Nat) (vs : List Value) (ho : o + vs.length ≤ n * 6) (h1 : ∀ v ∈ vs, v.oneCell' = true) : OwE (w.setCells g o vs) g n (xs.take o ++ vs ++ xs.drop (o + vs.length)) := by
 have hl := h.len
 have hl1 : (xs.take o).length = o := by rw [zJ]; omega
 refine ⟨zah.sets _ _ _ h.row, by simp; omega, fun j u hj => ?_, fun u hu => ?_⟩
 ·by_cases h2 : j < o
  ·rw [World.cell?_setCells_out g _ _ _ _ (fun _ _ => .inl (by simp only; omega))]
   rw [zM, zL (by omega), List.getElem?_take] at hj
   rw [if_pos h2] at hj
   exact h.at_ j u hj
  ·by_cases h3 : j < o + vs.length
   ·rw [zL (by rw [zG]; omega), List.getElem?_append_right (by omega), hl1] at hj
    have h4 := World.cell?_setCells_in g vs o w (fun q hq => h.row.cell _ (by omega)) (j - o) (by omega)
    rw [show o + (j - o) = j by omega] at h4
    rw [h4, ← hj]
    exact (zI _).symm
   ·rw [World.cell?_setCells_out g _ _ _ _ (fun _ _ => .inr (by simp only; omega))]
    rw [List.getElem?_append_right (by rw [zG]; omega), zG, hl1, List.getElem?_drop] at hj
    rw [show o + vs.length + (j - (o + vs.length)) = j by omega] at hj
    exact h.at_ j u hj
 ·rcases List.mem_append.1 hu with h2 | h2
  ·rcases List.mem_append.1 h2 with h3 | h3
   ·exact h.one u (List.mem_of_mem_take h3)
   ·exact h1 u h3
  ·exact h.one u (List.mem_of_mem_drop h2)
theorem OwE.drew {w : World} {g n : Nat} {xs : List Value} (h : OwE w g n xs) : OwE w.drew g n xs := ⟨h.row, h.len, h.at_, h.one⟩
theorem repE_mid (u : World) (g sn i j r : Nat) (xs ys : List Value) (h : OwE u g sn xs) (hij : i + 1 = j) (hjr : j + r = sn) (hr0 : 0 < r) (hsn : sn ≤ 65535) (b bc : Nat) (hy : ys.length = 6) (hyo : ∀ v ∈ ys, v.oneCell' = true) (hyc : ∀ j v, ys[j]? = some v → u.cell? ⟨b, j, none⟩ = some v) :
  Calls Tryz.prog 89 #[.slice (some ⟨g, 0, none⟩) sn sn, .int .i64 (i : Int), .int .i64 (j : Int), .slice (some ⟨b, 0, none⟩) 1 bc] u fun e w' => e = .returned (.slice (some ⟨g, 0, none⟩) sn sn) ∧ Hid (OwE w' g sn (xs.take (i * 6) ++ ys ++ xs.drop (j * 6))) ∧ Hid (Cf (· = g) u w') := by
 have h1 : (i : Int) < (j : Int) := by omega
 have h2 : (j : Int) < (sn : Int) := by omega
 have h3 : (sn : Int) ≤ 65535 := by omega
 have h4 : sn - j = r := by omega
 have h5 : i ≤ sn := by omega
 have h6 : j ≤ sn := by omega
 have h7 : i ≤ j := by omega
 have h8 : ¬ sn = i := by omega
 have h9 : ¬ sn = j := by omega
 have h10 : (j : Int) + (r : Int) = (sn : Int) := by omega
 have h13 : (i : Int) + 1 = (j : Int) := by omega
 have h11 : ¬ (i : Int) = (j : Int) := by omega
 have h12 : ¬ (j : Int) = (sn : Int) := by omega
 obtain ⟨w0, hw0⟩ : ∃ w0, u.drew = w0 := ⟨_, rfl⟩
 have ho0 : OwE w0 g sn xs := by rw [← hw0]; exact h.drew
 obtain ⟨w1, hw1⟩ : ∃ w1, w0.setCells g (i * 6) ys = w1 := ⟨_, rfl⟩
 have hl := h.len
 have ho1 : OwE w1 g sn (xs.take (i * 6) ++ ys ++ xs.drop (j * 6)) := by
  have := ho0.sets (i * 6) ys (by omega) hyo
  rw [hw1, show i * 6 + ys.length = j * 6 by omega] at this
  exact this
 have hd1 : (xs.take (i * 6) ++ ys ++ xs.drop (j * 6)).drop (j * 6) = xs.drop (j * 6) := by
  rw [List.drop_append_of_le_length (by simp; omega), List.drop_of_length_le (by simp; omega), List.nil_append]
 obtain ⟨w2, hw2⟩ : ∃ w2, w1.drew.setCells g (j * 6) (xs.drop (j * 6)) = w2 := ⟨_, rfl⟩
 have k1 : (Builtin.copy_ #[75, 75] 3 #[.slice (some ⟨g, i * 6, none⟩) (sn - i) (sn - i), .slice (some ⟨b, 0, none⟩) 1 bc]).run Tryz.prog w0 = .ok (goInt 1) w1 := by
  have e : Nat.min 1 (sn - i) = 1 := Nat.min_eq_left (by omega)
  have := copyE_run w0 3 g (i * 6) (sn - i) (sn - i) ⟨b, 0, none⟩ 1 bc ys (by rw [e, hy]) (fun q v hq => by
   rw [Addr.add_lit, Nat.zero_add, ← hw0]
   exact hyc q v hq) (fun q hq => ho0.row.cell _ (by omega)) (fun q _ => ho0.row.free _) hyo
  rw [e, hw1] at this
  exact this
 have k2 : (Builtin.copy_ #[75, 75] 3 #[.slice (some ⟨g, j * 6, none⟩) r r, .slice (some ⟨g, j * 6, none⟩) r r]).run Tryz.prog w1.drew = .ok (goInt (r : Nat)) w2 := by
  have e : Nat.min r r = r := Nat.min_eq_left Lr
  have := copyE_run w1.drew 3 g (j * 6) r r ⟨g, j * 6, none⟩ r r (xs.drop (j * 6)) (by rw [e, zK]; omega) (fun q v hq => by
   rw [Addr.add_lit]
   exact ho1.at_ _ v (by rw [← hd1, List.getElem?_drop] at hq; exact hq)) (fun q hq => ho1.drew.row.cell _ (by rw [zK] at hq; omega)) (fun q _ => ho1.drew.row.free _) (fun v hv => h.one v (List.mem_of_mem_drop hv))
  rw [e, hw2] at this
  exact this
 have HE : Hid (OwE w2 g sn (xs.take (i * 6) ++ ys ++ xs.drop (j * 6)) ∧ Cf (· = g) u w2) := zaa (by
  constructor
  ·have := ho1.drew.sets (j * 6) (xs.drop (j * 6)) (by rw [zK]; omega) (fun v hv => h.one v (List.mem_of_mem_drop hv))
   rw [hw2] at this
   have e : (xs.take (i * 6) ++ ys ++ xs.drop (j * 6)).take (j * 6) ++ xs.drop (j * 6) ++ (xs.take (i * 6) ++ ys ++ xs.drop (j * 6)).drop (j * 6 + (xs.drop (j * 6)).length) = xs.take (i * 6) ++ ys ++ xs.drop (j * 6) := by
    have hle : (xs.take (i * 6) ++ ys).length = j * 6 := by simp; omega
    have hz : (xs.take (i * 6) ++ ys ++ xs.drop (j * 6)).drop (j * 6 + (xs.drop (j * 6)).length) = [] := List.drop_of_length_le (by rw [zG, hle]; exact Lr)
    rw [hz, List.append_nil, List.take_append_of_le_length (by omega), List.take_of_length_le (by omega)]
   rw [e] at this
   exact this
  ·rw [← hw2]
   refine Cf.go ?_ (Cf.sets _ _ _ _)
   have hc : Cf (· = g) u w1 := by rw [← hw1, ← hw0]; exact Cf.go (Cf.of_below Br.drew) (Cf.sets _ _ _ _)
   exact hc.go (Cf.of_below Br.drew))
 have hcl : ∀ ty a cc, (Builtin.clear_ #[75] ty #[.slice a 0 cc]).run Tryz.prog w2 = .ok (.tuple #[]) w2 := fun ty a cc => clear_none w2 75 78 ty Tryz.underlying75 a cc
 clear h hy hyo hyc ho0 ho1 hd1 hw1 hw2 hl
 go_enter Tryz.func89, Tryz.ntmps89
 go_wp2_with fail
 go_region
 rw [hw0]
 clear hw0
 go_upto_region 18 with (at_builtin; refine copy_wp rfl _ _ _ _ rfl _ _ rfl rfl k1 ?_)
 go_wp2_with fail
 refine wp_region_held_drew (S := fun _ => True ∧ True) (by kernel_rfl) ⟨trivial, trivial⟩ (fun hHeld => ?_)
 refine zT (i := 0) (v := ?_) rfl ?_ (fun _ _ _ h => h) ?_
 rotate_left
 ·(rintro w ⟨_, _⟩; go_simp; try with_reducible rfl)
 try simp only [Act.put, zA, zC, zD, zE, zF]
 refine zT (i := 1) (v := ?_) rfl ?_ (fun _ _ _ h => h) ?_
 rotate_left
 ·(rintro w ⟨_, _⟩; go_simp; try with_reducible rfl)
 try simp only [Act.put, zA, zB, zC, zD, zE, zF]
 refine zT (i := 2) (v := ?_) rfl ?_ (fun _ _ _ h => h) ?_
 rotate_left
 ·(rintro w ⟨_, _⟩; go_simp; try with_reducible rfl)
 try simp only [Act.put, zA, zB, zC, zD, zE, zF]
 refine zT (i := 3) (v := ?_) rfl ?_ (fun _ _ _ h => h) ?_
 rotate_left
 ·(rintro w ⟨_, _⟩; go_simp; try with_reducible rfl)
 try simp only [Act.put, zA, zB, zC, zD, zE, zF]
 refine wpAnyH_take (i := 4) (v := .int .i64 (j : Int)) rfl (by kernel_rfl) (by kernel_rfl) (by kernel_rfl) (fun _ _ _ h => h) (Or.inl ⟨by rfl, ?_⟩) (by assumption) ?_
 ·intro w hSw
  go_simp
  try (rw [h13])
  try (rw [show IntKind.i64.wrap (j : Int) = (j : Int) by rw [IntKind.wrap_i64]; omega])
 try simp only [Act.put, zA, zB, zC, zD, zE, zF]
 refine wpAnyH_take (i := 5) (v := .slice (some ⟨g, j * 6, none⟩) r r) rfl (by kernel_rfl) (by kernel_rfl) (by kernel_rfl) (fun _ _ _ h => h) (Or.inl ⟨by rfl, ?_⟩) (by assumption) ?_
 ·intro w hSw
  go_simp
 try simp only [Act.put, zA, zB, zC, zD, zE, zF]
 refine zT (i := 6) (v := ?_) rfl ?_ (fun _ _ _ h => h) ?_
 rotate_left
 ·(rintro w ⟨_, _⟩; go_simp; try with_reducible rfl)
 try simp only [Act.put, zA, zB, zC, zD, zE, zF]
 refine zT (i := 7) (v := ?_) rfl ?_ (fun _ _ _ h => h) ?_
 rotate_left
 ·(rintro w ⟨_, _⟩; go_simp; try with_reducible rfl)
 try simp only [Act.put, zA, zB, zC, zD, zE, zF]
 refine wpAnyH_take (i := 8) (v := .slice (some ⟨g, j * 6, none⟩) r r) rfl (by kernel_rfl) (by kernel_rfl) (by kernel_rfl) (fun _ _ _ h => h) (Or.inl ⟨by rfl, ?_⟩) (by assumption) ?_
 ·intro w hSw
  go_simp
 try simp only [Act.put, zA, zB, zC, zD, zE, zF]
 refine zY (i := 9) rfl fun K hK => ?_
 refine copy_step rfl _ _ _ _ rfl _ _ (by rfl) (by rfl) k2 ?_
 refine hK.out _ _ ⟨trivial, trivial⟩ (fun hHeld => ?_)
 clear hK K
 refine wpAnyH_done (by kernel_rfl) ?_ _
 clear hHeld k1 k2
 go_wp2_with (at_builtin; refine zbz rfl _ _ rfl _ rfl (hcl _ _ _) ?_)
 go_ret
 exact ⟨rfl, zaa HE.out.1, zaa HE.out.2⟩
theorem or_short (a b : Int) (ha : 0 ≤ a ∧ a ≤ 255) (hb : 0 ≤ b ∧ b ≤ 255) : bits .or .i64 (a * 256) b = a * 256 + b := by
 obtain ⟨x, rfl⟩ := Int.eq_ofNat_of_zero_le ha.1
 obtain ⟨y, rfl⟩ := Int.eq_ofNat_of_zero_le hb.1
 show IntKind.i64.wrap ((BitVec.ofInt 64 ((x : Int) * 256) ||| BitVec.ofInt 64 (y : Int)).toNat : Nat) = _
 have h1 : (BitVec.ofInt 64 ((x : Int) * 256)).toNat = 2 ^ 8 * x := by rw [BitVec.toNat_ofInt]; omega
 have h2 : (BitVec.ofInt 64 (y : Int)).toNat = y := by rw [BitVec.toNat_ofInt]; omega
 rw [BitVec.toNat_or, h1, h2, ← Nat.two_pow_add_eq_or_of_lt (show y < 2 ^ 8 by omega), IntKind.wrap_i64]
 omega
theorem rdN2 (l : List Int) (p : Nat) (h : p + 2 ≤ l.length) : rdN l p 2 = l.getD p 0 * 256 + l.getD (p + 1) 0 := by
 unfold rdN
 rw [zbs l p (by omega), zbs l (p + 1) (by omega)]
 simp [rdB]
theorem shortAtq_any (w : World) (ao : Option Addr) (n cap p : Nat) (l : List Int) (hs : Sl w ao n cap l) (hp : p + 2 ≤ n) :
  Calls Tryz.prog 99 #[.slice ao n cap, .int .i64 (p : Int)] w fun e w' => e = .returned (.int .i64 (rdN l p 2)) ∧ ∃ q, w' = w.drewN q := by
 have hlen := hs.hlen
 have hr := hs.hroom
 rw [rdN2 l p (by omega)]
 rcases hs.hat with h | ⟨b, off, rfl, hb, hc⟩
 ·omega
 obtain ⟨p', hp'⟩ : ∃ p', p + 1 = p' := ⟨_, rfl⟩
 have hpI : (p : Int) + 1 = (p' : Int) := by omega
 have c0 := hc p (by omega)
 have c1 := hc p' (by omega)
 have y0 := hs.wf.getD p
 have y1 := hs.wf.getD p'
 have p0 : (p : Int) < (n : Int) := by omega
 have p1 : (p' : Int) < (n : Int) := by omega
 have p2 : p < n := by omega
 have p3 : p' < n := by omega
 clear hc hs
 rw [hp']
 clear hp'
 generalize l.getD p 0 = a at *
 generalize l.getD p' 0 = c at *
 have ho := or_short a c y0 y1
 have hw0 : IntKind.i64.wrap a = a := by rw [IntKind.wrap_i64]; omega
 have hw1 : IntKind.i64.wrap c = c := by rw [IntKind.wrap_i64]; omega
 have hw : IntKind.i64.wrap (a * 256) = a * 256 := by rw [IntKind.wrap_i64]; omega
 go_enter Tryz.func99, Tryz.ntmps99
 go_wp2_with fail
 go_quiet (fail)
 go_wp2
 go_ret
 exact ⟨rfl, _, rfl⟩
theorem clone_any (a : Addr) (n cap : Nat) (l : List Int) (w : World) (hs : Sl w (some a) n cap l) :
  Calls Tryz.prog 100 #[.slice (some a) n cap] w fun e w' => ∃ g c, e = .returned (.slice (some ⟨g, 0, none⟩) n c) ∧ Hid (OwnB w' w.heap.size (.slice (some ⟨g, 0, none⟩) n c) l ∧ w.heap.size ≤ g ∧ g < w'.heap.size) ∧ Hid (Below w.heap.size w w') := by
 obtain ⟨x, hx⟩ : ∃ x, w.alloc (.cells #[] 5) = x := ⟨_, rfl⟩
 have hbx : Below w.heap.size w x := by rw [← hx]; exact zac Br Lr _
 have HS := zaa (hs.on Lr hbx)
 have hroom := hs.hroom
 have HLN := zaa hs.hlen
 have HO : Hid (OwnB x w.heap.size (.slice (some ⟨w.heap.size, 0, none⟩) 0 0) []) := zaa (by
  refine ⟨rfl, .inr ⟨w.heap.size, 0, #[], rfl, Lr, ?_, Lr, Nat.zero_le _, rfl, rfl⟩⟩
  rw [← hx]
  exact heap_alloc_last w _)
 have HBX := zaa hbx
 have hxs : w.heap.size ≤ x.heap.size := hbx.size
 have he : (binOp .eql 37 (.slice (some a) n cap) (.slice none 0 0)).run Tryz.prog w = .ok (.bool false) w := run_eql_slice_nil (P := Tryz.prog) w 37 5 (some a) n cap Tryz.underlying37
 clear hs hbx
 go_enter Tryz.func100, Tryz.ntmps100
 go_wp2_with (at_builtin; refine zbo _ rfl _ _ rfl w.heap.size [] l _ (some a) n cap rfl rfl HO.out HS.out (by simp; omega) hxs ?_; refine Hid.out ?_)
 apply zaa
 intro v1 w1 ho1 g1
 replace ho1 : OwnB w1 w.heap.size v1 l := by simpa using ho1
 have HB : Hid (Below w.heap.size w w1) := zaa (HBX.out.trans (g1.below HO.out hxs))
 obtain ⟨g, c, rfl, hg, hgl⟩ : ∃ g c, v1 = .slice (some ⟨g, 0, none⟩) n c ∧ w.heap.size ≤ g ∧ g < w1.heap.size := by
  have hb := ho1
  unfold OwnB at hb
  rcases hb.2 with ⟨e, _⟩ | ⟨g, c, cur, e, hg, hh, _⟩
  ·have := g1.own
   rw [e] at this
   simp [Value.ownBlock] at this
  ·exact ⟨g, c, by rw [e, HLN.out], hg, zag hh⟩
 have HO1 := zaa ho1
 clear ho1 g1
 go_wp2
 go_ret
 exact ⟨g, c, rfl, zaa ⟨HO1.out, hg, hgl⟩, HB⟩
theorem riseQ_any (ao bo : Option Addr) (n m c d : Nat) (la lb : List Int) (w : World) (ha : Sl w ao n c la) (hb : Sl w bo m d lb) :
  Calls Tryz.prog 64 #[.slice ao n c, .slice bo m d] w fun e w' => e = .returned (.bool (decide (kl la lb))) ∧ w' = w := by
 have hr := zdl ao bo n m c d la lb w ha hb
 have hq : decide (kl la lb) = decide (ordL la lb < 0) := by
  have := zbt la lb
  refine decide_eq_decide.2 ?_
  unfold kl
  omega
 rw [hq]
 clear ha hb hq
 generalize ordL la lb = x at *
 go_enter Tryz.func64, Tryz.ntmps64
 go_wp2_with (go_at_call 106; refine zae hr ?_)
 go_ret
 exact ⟨rfl, rfl⟩
def prv (cs : List Cl) : Option (List Int) := cs.getLast?.map Cl.key
def hdP (k : Int) (P : List Int) (j : Nat) : List Int := if k = 3 ∧ j = 0 then [] else P
theorem hdP_len (k : Int) (P : List Int) (j : Nat) : (hdP k P j).length = if k = 3 ∧ j = 0 then 0 else P.length := by
 unfold hdP
 split <;> rfl
theorem hdP_le (k : Int) (P : List Int) (j : Nat) : (hdP k P j).length ≤ P.length := by
 rw [hdP_len]
 split <;> omega
theorem hdP_wf {k : Int} {P : List Int} (h : Wf P) (j : Nat) : Wf (hdP k P j) := by
 unfold hdP
 split
 ·exact Wf.nil
 ·exact h
structure PwQ (k : Int) (n m : Nat) (P body : List Int) (cs : List Cl) (j p : Nat) : Prop where
 len : cs.length = j
 at_ : p = (qbd P.length (whl k) cs).length
 eq : zap k n P m (whl k) none body = (zap k n P (m - j) (whl k && decide (j = 0)) (prv cs) (body.drop p)).map fun x => (cs ++ x.1, x.2)
theorem PwQ.start (k : Int) (n m : Nat) (P body : List Int) : PwQ k n m P body [] 0 0 := ⟨rfl, rfl, by simp [prv]⟩
theorem whl_hd (k : Int) (P : List Int) (j : Nat) : (if (whl k && decide (j = 0)) = true then [] else P) = hdP k P j := by
 unfold hdP whl
 simp
theorem PwQ.fail {k : Int} {n m : Nat} {P body : List Int} {cs : List Cl} {j p : Nat} (h : PwQ k n m P body cs j p) (hj : j < m) (hp : pC (body.drop p) = none) : zap k n P m (whl k) none body = none := by
 rw [h.eq, show m - j = (m - j - 1) + 1 by omega, zap, hp]
 rfl
theorem PwQ.bad {k : Int} {n m : Nat} {P body : List Int} {cs : List Cl} {j p q : Nat} {d : Cl} (h : PwQ k n m P body cs j p) (hj : j < m) (hp : pC (body.drop p) = some (d, body.drop q)) (hc : ¬ (mayP k n (d.pre (hdP k P j)) ∧ zaq (prv cs) (d.pre (hdP k P j)).key)) : zap k n P m (whl k) none body = none := by
 rw [h.eq, show m - j = (m - j - 1) + 1 by omega, zap, hp]
 simp only [whl_hd]
 rw [if_neg hc]
 rfl
theorem PwQ.next {k : Int} {n m : Nat} {P body : List Int} {cs : List Cl} {j p q : Nat} {d : Cl} (h : PwQ k n m P body cs j p) (hw : Wf body) (hj : j < m) (hq : q ≤ body.length) (hpl : p ≤ body.length) (hp : pC (body.drop p) = some (d, body.drop q)) (hc : mayP k n (d.pre (hdP k P j)) ∧ zaq (prv cs) (d.pre (hdP k P j)).key) :
  PwQ k n m P body (cs ++ [d.pre (hdP k P j)]) (j + 1) q ∧ qst P.length (whl k) 0 (cs ++ [d.pre (hdP k P j)]) = qst P.length (whl k) 0 cs ++ [p] := by
 have hi := (pC_inv (hw.drop p) hp).1
 have hl := congrArg List.length hi
 rw [zG, zK, zK] at hl
 have ha := h.at_
 have hb : qB (cutn P.length (whl k) cs) (d.pre (hdP k P j)) = qB 0 d := by
  have hn : cs = [] ↔ j = 0 := by rw [← h.len]; exact List.length_eq_zero_iff.symm
  unfold cutn hdP whl
  by_cases e : k = 3 ∧ j = 0
  ·rw [if_pos (by simp [hn, e]), if_pos e]
   obtain ⟨key, kd, val, pg, ct⟩ := d
   simp [Cl.pre]
  ·rw [if_neg (by simpa [hn] using e), if_neg e]
   exact qB_pre P d
 refine ⟨⟨by simp [h.len], ?_, ?_⟩, ?_⟩
 ·rw [qbd_snoc, zG, ← ha, hb]
  omega
 ·rw [h.eq, show m - j = (m - (j + 1)) + 1 by omega, zap, hp]
  simp only [whl_hd]
  rw [if_pos hc, show prv (cs ++ [d.pre (hdP k P j)]) = some (d.pre (hdP k P j)).key from by simp [prv]]
  simp only [Nat.add_one_ne_zero, decide_false, Bool.and_false]
  cases zap k (n : Int) P (m - (j + 1)) false (some (d.pre (hdP k P j)).key) (body.drop q) <;> simp
 ·rw [qst_snoc, Nat.zero_add, ← ha]
theorem PwQ.done {k : Int} {n m : Nat} {P body : List Int} {cs : List Cl} {p : Nat} (h : PwQ k n m P body cs m p) : zap k n P m (whl k) none body = some (cs, body.drop p) := by
 have he := h.eq
 rw [Nat.sub_self, zap] at he
 simpa using he
theorem OwnB.take {w : World} {B : Nat} {ao : Option Addr} {n cap : Nat} {l : List Int} (h : OwnB w B (.slice ao n cap) l) (k : Nat) (hk : k ≤ n) : OwnB w B (.slice ao k cap) (l.take k) := by
 unfold OwnB at *
 obtain ⟨h1, h2⟩ := h
 refine ⟨by simp [By], ?_⟩
 rcases h2 with ⟨e, hl⟩ | ⟨g, c, cur, e, hg, hh, hnc, hm, hs, ht⟩
 ·injection e with e1 e2 e3
  subst e1 e2 e3
  obtain rfl : k = 0 := by omega
  exact .inl ⟨rfl, by simp⟩
 ·injection e with e1 e2 e3
  subst e1 e2 e3
  have hkl : (l.take k).length = k := by rw [zJ]; omega
  refine .inr ⟨g, cap, cur, by rw [hkl], hg, hh, by rw [hkl]; omega, hm, hs, ?_⟩
  have := congrArg (List.take k) ht
  rw [hkl]
  simpa [By, List.take_take, List.map_take, Nat.min_eq_left hk] using this
end Go.Proofs.YtfgffajgfgifhaaGreatDoor
