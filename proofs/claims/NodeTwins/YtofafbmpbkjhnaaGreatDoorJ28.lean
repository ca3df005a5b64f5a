import Derived.Deep.DeepCutAuto
import Derived.Deep.CutRange
import Derived.Deep.RegionHeld
import Derived.Test.YtofafbmpbkjhnaaGreatDoorJ27
import Derived.Lib.LazyBuf
namespace Go.Proofs.YtofafbmpbkjhnaaGreatDoor
set_option maxRecDepth 100000
set_option maxHeartbeats 4000000
open Go.RowKit
theorem copyE_run (w : World) (ty : TypeId) (g o dl dc : Nat) (a : Addr) (sl sc : Nat) (cs : List Value) (hn : cs.length = Nat.min sl dl * 6)
  (hsrc : ∀ j v, cs[j]? = some v → w.cell? (a.add j) = some v) (hc : ∀ j, j < cs.length → (w.cell? ⟨g, o + j, none⟩).isSome = true) (hf : ∀ j, j < cs.length → w.frozen? ⟨g, o + j, none⟩ = false) (h1 : ∀ v ∈ cs, v.oneCell' = true) :
  (Builtin.copy_ #[157, 157] ty #[.slice (some ⟨g, o, none⟩) dl dc, .slice (some a) sl sc]).run Tryz.prog w = .ok (goInt (Nat.min sl dl : Nat)) (w.setCells g o cs) := by
 obtain ⟨ic, hic, hz0, hz1, hz2⟩ := info_parts infoE
 have hl := run_loadCells_list (P := Tryz.prog) w a cs hsrc
 have hst := run_storeCells_cells (P := Tryz.prog) g o cs 0 w (by simpa using hc) (by simpa using hf) h1
 simp [Builtin.copy_, run_underlying Tryz.underlying157, Builtin.lenOf, Builtin.firstCells, sizeOf, typeInfo, hic, hz1, ← hn, hl, hst]
structure OwE (w : World) (g n : Nat) (xs : List Value) : Prop where
 row : zag w g n
 len : xs.length = n * 6
 at_ : ∀ j u, xs[j]? = some u → w.cell? ⟨g, j, none⟩ = some u
 one : ∀ u ∈ xs, u.oneCell' = true
theorem below_sets (B g o : Nat) (vs : List Value) (w : World) (hg : B ≤ g) (hB : B ≤ w.heap.size) : Below B w (w.setCells g o vs) := by
 have h := zap g vs o w
 exact ⟨h.os, h.tape, h.output, h.size, fun k hk => h.block k (by omega) (by intro e; injection e with e; omega)⟩
theorem insE_mid (u : World) (g sn i : Nat) (xs ys : List Value) (h : OwE u g sn xs) (hi : i < sn) (hsn : sn ≤ 65535) (b bc : Nat) (hy : ys.length = 6) (hyo : ∀ v ∈ ys, v.oneCell' = true) (hyc : ∀ j v, ys[j]? = some v → u.cell? ⟨b, j, none⟩ = some v) :
  Calls Tryz.prog 294 #[.slice (some ⟨g, 0, none⟩) sn sn, .int .i64 (i : Int), .slice (some ⟨b, 0, none⟩) 1 bc] u fun e w' => ∃ g' c', e = .returned (.slice (some ⟨g', 0, none⟩) (sn + 1) c') ∧ Hid ((u.heap.size ≤ g' ∧ sn + 1 ≤ c') ∧ ∀ j v, (xs.take (i * 6) ++ ys ++ xs.drop (i * 6))[j]? = some v → w'.cell? ⟨g', j, none⟩ = some v) ∧ Hid (Below u.heap.size u w') := by
 obtain ⟨ic, hic, hz0, hz1, hz2⟩ := info_parts infoE
 have hge := grownCap_ge u (sn + 1) sn 159
 have hle := grownCap_le_maxLen u (sn + 1) sn 159 (by unfold maxLen; omega)
 generalize hcg : grownCap u (sn + 1) sn 159 = c' at *
 obtain ⟨cur, hcur⟩ : ∃ cur : Array Value, ((xs.take (i * 6)).toArray ++ Builtin.zeroCells (Value.agg #[.slice none 0 0, .slice none 0 0, .int .i64 0, .slice none 0 0, .int .i64 0, .int .i64 0]).cells (sn + 1 - i) ++ Builtin.zeroCells (Value.agg #[.slice none 0 0, .slice none 0 0, .int .i64 0, .slice none 0 0, .int .i64 0, .int .i64 0]).cells (c' - (sn + 1))) = cur := ⟨_, rfl⟩
 obtain ⟨w1, hw1⟩ : ∃ w1, u.drew.alloc (.cells cur 159) = w1 := ⟨_, rfl⟩
 have hr : ∀ ty, (Builtin.append_ #[157, 3] ty #[.slice (some ⟨g, 0, none⟩) i sn, .int .i64 ((sn : Int) + 1 - (i : Int))]).run Tryz.prog u = .ok (.slice (some ⟨u.heap.size, 0, none⟩) (sn + 1) c') w1 := fun ty => by
  have h1 := Lib.run_append_grow_zeros (P := Tryz.prog) u 157 3 ty 159 ic _ .i64 .i64 Tryz.underlying157 Tryz.underlying3 hic hz0 (some ⟨g, 0, none⟩) i sn (xs.take (i * 6))
   (run_firstCells_some (P := Tryz.prog) u.drew ic.size i ⟨g, 0, none⟩ i sn (xs.take (i * 6)) (by rw [hz1, zJ, h.len]; omega) (fun j v hj => by
    rw [Addr.add_lit, Nat.zero_add]
    exact h.at_ j v (by rw [List.getElem?_take] at hj; split at hj <;> first | exact hj | cases hj))) (sn + 1 - i) (by omega) (by omega) (by omega) (by omega) (by rw [hz2]; omega) (by rw [show i + (sn + 1 - i) = sn + 1 by omega]; exact growslice_fits (by omega) (by rw [hz2]; omega))
  rw [show i + (sn + 1 - i) = sn + 1 by omega, hcg, hcur, hw1] at h1
  rw [show ((sn : Int) + 1 - (i : Int)) = ((sn + 1 - i : Nat) : Int) by omega]
  exact h1
 obtain ⟨g', hg'⟩ : ∃ g', u.heap.size = g' := ⟨_, rfl⟩
 rw [hg'] at hr
 have HR1 : Hid (zag w1 g' c' ∧ Below u.heap.size u w1 ∧ ∀ j v, (xs.take (i * 6))[j]? = some v → w1.cell? ⟨g', j, none⟩ = some v) := zaa (by
  have hrow : w1.heap[g']? = some (.cells cur 159 (0, 0)) := by rw [← hw1, ← hg']; exact heap_alloc_new u.drew _
  refine ⟨⟨_, hrow, ?_⟩, by rw [← hw1]; exact zac Br.drew Lr _, fun j v hj => ?_⟩
  ·rw [← hcur, Array.size_append, Array.size_append, size_zeroCells, size_zeroCells]
   simp only [List.size_toArray, zJ, h.len]
   show min (i * 6) (sn * 6) + (sn + 1 - i) * 6 + (c' - (sn + 1)) * 6 = 6 * c'
   omega
  ·rw [cell_of_row _ _ _ _ _ _ hrow, ← hcur]
   rw [Array.append_assoc, Array.getElem?_append_left (by simpa using (zH.1 hj).1)]
   simpa using hj)
 have hiI : (i : Int) < (sn : Int) := by omega
 have hsI : (sn : Int) ≤ 65535 := by omega
 have hcI : ((sn : Int) + 1) ≤ (c' : Int) := by omega
 have HOW := zaa h
 have HN : Hid (i ≤ sn ∧ ¬ sn = i ∧ (0 ≤ (i : Int) + 1 ∧ i ≤ sn) ∧ ¬ c' = i + 1) := zaa ⟨by omega, by omega, ⟨by omega, by omega⟩, by omega⟩
 have HG := zaa hg'
 obtain ⟨w2, hw2⟩ : ∃ w2, w1.setCells g' (i * 6) ys = w2 := ⟨_, rfl⟩
 obtain ⟨w3, hw3⟩ : ∃ w3, w2.drew.setCells g' ((i + 1) * 6) (xs.drop (i * 6)) = w3 := ⟨_, rfl⟩
 have hb2 : Below u.heap.size u w2 := by
  rw [← hw2]
  exact HR1.out.2.1.trans (below_sets _ _ _ _ _ (by omega) HR1.out.2.1.size)
 have hrow2 : zag w2 g' c' := by rw [← hw2]; exact zag.sets _ _ _ HR1.out.1
 have k1 : ∀ ty, (Builtin.copy_ #[157, 157] ty #[.slice (some ⟨g', i * 6, none⟩) (sn + 1 - i) (c' - i), .slice (some ⟨b, 0, none⟩) 1 bc]).run Tryz.prog w1 = .ok (goInt 1) w2 := fun ty => by
  have e : Nat.min 1 (sn + 1 - i) = 1 := Nat.min_eq_left (by omega)
  have := copyE_run w1 ty g' (i * 6) (sn + 1 - i) (c' - i) ⟨b, 0, none⟩ 1 bc ys (by rw [e, hy]) (fun j v hj => by
   rw [Addr.add_lit, Nat.zero_add]
   have h1 := hyc j v hj
   exact (HR1.out.2.1.cell (p := ⟨b, j, none⟩) (World.block_lt_of_cell? u ⟨b, j, none⟩ (by rw [h1]))).trans h1) (fun j hj => HR1.out.1.cell _ (by omega)) (fun j _ => HR1.out.1.free _) hyo
  rw [e, hw2] at this
  exact this
 have k2 : ∀ ty, (Builtin.copy_ #[157, 157] ty #[.slice (some ⟨g', (i + 1) * 6, none⟩) (sn - i) (c' - (i + 1)), .slice (some ⟨g, i * 6, none⟩) (sn - i) (sn - i)]).run Tryz.prog w2.drew = .ok (goInt (sn - i : Nat)) w3 := fun ty => by
  have e : Nat.min (sn - i) (sn - i) = sn - i := Nat.min_eq_left (by omega)
  have := copyE_run w2.drew ty g' ((i + 1) * 6) (sn - i) (c' - (i + 1)) ⟨g, i * 6, none⟩ (sn - i) (sn - i) (xs.drop (i * 6)) (by rw [e, zK, h.len]; omega) (fun j v hj => by
   rw [Addr.add_lit]
   have h1 := h.at_ (i * 6 + j) v (by rw [List.getElem?_drop] at hj; exact hj)
   exact (hb2.drew.cell (p := ⟨g, i * 6 + j, none⟩) (World.block_lt_of_cell? u ⟨g, i * 6 + j, none⟩ (by rw [h1]))).trans h1) (fun j hj => (show zag w2.drew g' c' from hrow2).cell _ (by rw [zK, h.len] at hj; omega)) (fun j _ => (show zag w2.drew g' c' from hrow2).free _) (fun v hv => h.one v (List.mem_of_mem_drop hv))
  rw [e, hw3] at this
  exact this
 have HFIN : Hid ((∀ j v, (xs.take (i * 6) ++ ys ++ xs.drop (i * 6))[j]? = some v → w3.cell? ⟨g', j, none⟩ = some v) ∧ Below u.heap.size u w3) := zaa (by
  have hl1 : (xs.take (i * 6)).length = i * 6 := by rw [zJ, h.len]; omega
  refine ⟨fun j v hj => ?_, ?_⟩
  ·rw [← hw3]
   by_cases h1 : j < i * 6
   ·rw [zM, zL (by omega)] at hj
    rw [World.cell?_setCells_out g' _ _ _ _ (fun _ _ => .inl (by simp only; omega))]
    show w2.cell? _ = _
    rw [← hw2, World.cell?_setCells_out g' _ _ _ _ (fun _ _ => .inl (by simp only; omega))]
    exact HR1.out.2.2 j v hj
   ·by_cases h2 : j < (i + 1) * 6
    ·rw [zL (by rw [zG]; omega), List.getElem?_append_right (by omega), hl1] at hj
     rw [World.cell?_setCells_out g' _ _ _ _ (fun _ _ => .inl (by simp only; omega))]
     show w2.cell? _ = _
     rw [← hw2]
     have h3 := World.cell?_setCells_in g' ys (i * 6) w1 (fun q hq => HR1.out.1.cell _ (by omega)) (j - i * 6) (by omega)
     rw [show i * 6 + (j - i * 6) = j by omega] at h3
     rw [h3, ← hj]
     exact (zI _).symm
    ·rw [List.getElem?_append_right (by rw [zG]; omega)] at hj
     have hjl := (zH.1 hj).1
     rw [zG, hl1, hy, zK, h.len] at hjl
     have h3 := World.cell?_setCells_in g' (xs.drop (i * 6)) ((i + 1) * 6) w2.drew (fun q hq => (show zag w2.drew g' c' from hrow2).cell _ (by rw [zK, h.len] at hq; omega)) (j - (i + 1) * 6) (by rw [zK, h.len]; omega)
     rw [show (i + 1) * 6 + (j - (i + 1) * 6) = j by omega] at h3
     rw [h3, ← hj, show j - ((xs.take (i * 6)) ++ ys).length = j - (i + 1) * 6 by rw [zG, hl1, hy]; omega]
     exact (zI _).symm
  ·rw [← hw3]
   exact hb2.drew.trans (below_sets _ _ _ _ _ (by omega) hb2.drew.size))
 clear hcg hw1 hle hcur hw2 hw3 hb2 hrow2
 go_enter Tryz.func294, Tryz.ntmps294
 go_upto_region 10 with (at_builtin; refine zcj rfl _ _ _ _ rfl _ _ rfl rfl (hr _) ?_)
 go_wp2_with fail
 refine wp_region_held_drew (S := fun _ => True ∧ True) (by kernel_rfl) ⟨trivial, trivial⟩ (fun hHeld => ?_)
 refine zT (i := 0) (v := ?_) rfl ?_ (fun _ _ _ h => h) ?_
 rotate_left
 ·(rintro w ⟨_, _⟩; go_simp; try with_reducible rfl)
 try simp only [Act.put, zA, zC, zD, zE, zF]
 refine zT (i := 1) (v := ?_) rfl ?_ (fun _ _ _ h => h) ?_
 rotate_left
 ·(rintro w ⟨_, _⟩; go_simp; try with_reducible rfl)
 try simp only [Act.put, zA, zB, zC, zD, zE, zF]
 refine zT (i := 2) (v := ?_) rfl ?_ (fun _ _ _ h => h) ?_
 rotate_left
 ·(rintro w ⟨_, _⟩; go_simp; try with_reducible rfl)
 try simp only [Act.put, zA, zB, zC, zD, zE, zF]
 refine wpAnyH_take (i := 3) (v := .int .i64 ((i + 1 : Nat) : Int)) rfl (by kernel_rfl) (by kernel_rfl) (by kernel_rfl) (fun _ _ _ h => h) (Or.inl ⟨by rfl, ?_⟩) (by assumption) ?_
 ·intro w hSw
  go_simp
  try (rw [show IntKind.i64.wrap ((i : Int) + 1) = (i : Int) + 1 by rw [IntKind.wrap_i64]; omega])
 try simp only [Act.put, zA, zB, zC, zD, zE, zF]
 refine zT (i := 4) (v := ?_) rfl ?_ (fun _ _ _ h => h) ?_
 rotate_left
 ·(intro w hSw; obtain ⟨_, _⟩ := hSw; go_simp; try (rw [if_pos HN.out.2.2.1, if_neg HN.out.2.2.2]); try (with_reducible rfl))
 try simp only [Act.put, zA, zB, zC, zD, zE, zF]
 refine zT (i := 5) (v := ?_) rfl ?_ (fun _ _ _ h => h) ?_
 rotate_left
 ·(rintro w ⟨_, _⟩; go_simp; try with_reducible rfl)
 try simp only [Act.put, zA, zB, zC, zD, zE, zF]
 refine zT (i := 6) (v := ?_) rfl ?_ (fun _ _ _ h => h) ?_
 rotate_left
 ·(rintro w ⟨_, _⟩; go_simp; try with_reducible rfl)
 try simp only [Act.put, zA, zB, zC, zD, zE, zF]
 refine zT (i := 7) (v := ?_) rfl ?_ (fun _ _ _ h => h) ?_
 rotate_left
 ·(intro w hSw; obtain ⟨_, _⟩ := hSw; go_simp; try (rw [if_pos HN.out.1, if_neg HN.out.2.1]); try (with_reducible rfl))
 try simp only [Act.put, zA, zB, zC, zD, zE, zF]
 refine zY (i := 8) rfl fun K hK => ?_
 refine copy_step rfl _ _ _ _ rfl _ _ (by rfl) (by rfl) (k2 _) ?_
 refine hK.out _ _ ⟨trivial, trivial⟩ (fun hHeld => ?_)
 clear hK K
 refine wpAnyH_done (by kernel_rfl) ?_ _
 clear hHeld k1 k2 hr
 go_wp2
 go_ret
 exact ⟨g', c', rfl, zaa ⟨⟨by have := HG.out; omega, by omega⟩, HFIN.out.1⟩, zaa HFIN.out.2⟩
theorem Cf.sets (g o : Nat) (vs : List Value) (w : World) : Cf (· = g) w (w.setCells g o vs) := by
 have h := zap g vs o w
 exact ⟨h.os, h.tape, h.output, h.size, fun k hk hg => h.block k hk (by intro e; injection e with e; exact hg e)⟩
theorem OwE.sets {w : World} {g n : Nat} {xs : List Value} (h : OwE w g n xs) (o : Nat) (vs : List Value) (ho : o + vs.length ≤ n * 6) (h1 : ∀ v ∈ vs, v.oneCell' = true) : OwE (w.setCells g o vs) g n (xs.take o ++ vs ++ xs.drop (o + vs.length)) := by
 have hl := h.len
 have hl1 : (xs.take o).length = o := by rw [zJ]; omega
 refine ⟨zag.sets _ _ _ h.row, by simp; omega, fun j u hj => ?_, fun u hu => ?_⟩
 ·by_cases h2 : j < o
  ·rw [World.cell?_setCells_out g _ _ _ _ (fun _ _ => .inl (by simp only; omega))]
   rw [zM, zL (by omega), List.getElem?_take] at hj
   rw [if_pos h2] at hj
   exact h.at_ j u hj
  ·by_cases h3 : j < o + vs.length
   ·rw [zL (by rw [zG]; omega), List.getElem?_append_right (by omega), hl1] at hj
    have h4 := World.cell?_setCells_in g vs o w (fun q hq => h.row.cell _ (by omega)) (j - o) (by omega)
    rw [show o + (j - o) = j by omega] at h4
    rw [h4, ← hj]
    exact (zI _).symm
   ·rw [World.cell?_setCells_out g _ _ _ _ (fun _ _ => .inr (by simp only; omega))]
    rw [List.getElem?_append_right (by rw [zG]; omega), zG, hl1, List.getElem?_drop] at hj
    rw [show o + vs.length + (j - (o + vs.length)) = j by omega] at hj
    exact h.at_ j u hj
 ·rcases List.mem_append.1 hu with h2 | h2
  ·rcases List.mem_append.1 h2 with h3 | h3
   ·exact h.one u (List.mem_of_mem_take h3)
   ·exact h1 u h3
  ·exact h.one u (List.mem_of_mem_drop h2)
theorem OwE.drew {w : World} {g n : Nat} {xs : List Value} (h : OwE w g n xs) : OwE w.drew g n xs := ⟨h.row, h.len, h.at_, h.one⟩
theorem repE_mid (u : World) (g sn i j r : Nat) (xs ys : List Value) (h : OwE u g sn xs) (hij : i + 1 = j) (hjr : j + r = sn) (hr0 : 0 < r) (hsn : sn ≤ 65535) (b bc : Nat) (hy : ys.length = 6) (hyo : ∀ v ∈ ys, v.oneCell' = true) (hyc : ∀ j v, ys[j]? = some v → u.cell? ⟨b, j, none⟩ = some v) :
  Calls Tryz.prog 292 #[.slice (some ⟨g, 0, none⟩) sn sn, .int .i64 (i : Int), .int .i64 (j : Int), .slice (some ⟨b, 0, none⟩) 1 bc] u fun e w' => e = .returned (.slice (some ⟨g, 0, none⟩) sn sn) ∧ Hid (OwE w' g sn (xs.take (i * 6) ++ ys ++ xs.drop (j * 6))) ∧ Hid (Cf (· = g) u w') := by
 have h1 : (i : Int) < (j : Int) := by omega
 have h2 : (j : Int) < (sn : Int) := by omega
 have h3 : (sn : Int) ≤ 65535 := by omega
 have h4 : sn - j = r := by omega
 have h5 : i ≤ sn := by omega
 have h6 : j ≤ sn := by omega
 have h7 : i ≤ j := by omega
 have h8 : ¬ sn = i := by omega
 have h9 : ¬ sn = j := by omega
 have h10 : (j : Int) + (r : Int) = (sn : Int) := by omega
 have h13 : (i : Int) + 1 = (j : Int) := by omega
 have h11 : ¬ (i : Int) = (j : Int) := by omega
 have h12 : ¬ (j : Int) = (sn : Int) := by omega
 obtain ⟨w0, hw0⟩ : ∃ w0, u.drew = w0 := ⟨_, rfl⟩
 have ho0 : OwE w0 g sn xs := by rw [← hw0]; exact h.drew
 obtain ⟨w1, hw1⟩ : ∃ w1, w0.setCells g (i * 6) ys = w1 := ⟨_, rfl⟩
 have hl := h.len
 have ho1 : OwE w1 g sn (xs.take (i * 6) ++ ys ++ xs.drop (j * 6)) := by
  have := ho0.sets (i * 6) ys (by omega) hyo
  rw [hw1, show i * 6 + ys.length = j * 6 by omega] at this
  exact this
 have hd1 : (xs.take (i * 6) ++ ys ++ xs.drop (j * 6)).drop (j * 6) = xs.drop (j * 6) := by
  rw [List.drop_append_of_le_length (by simp; omega), List.drop_of_length_le (by simp; omega), List.nil_append]
 obtain ⟨w2, hw2⟩ : ∃ w2, w1.drew.setCells g (j * 6) (xs.drop (j * 6)) = w2 := ⟨_, rfl⟩
 have k1 : (Builtin.copy_ #[157, 157] 3 #[.slice (some ⟨g, i * 6, none⟩) (sn - i) (sn - i), .slice (some ⟨b, 0, none⟩) 1 bc]).run Tryz.prog w0 = .ok (goInt 1) w1 := by
  have e : Nat.min 1 (sn - i) = 1 := Nat.min_eq_left (by omega)
  have := copyE_run w0 3 g (i * 6) (sn - i) (sn - i) ⟨b, 0, none⟩ 1 bc ys (by rw [e, hy]) (fun q v hq => by
   rw [Addr.add_lit, Nat.zero_add, ← hw0]
   exact hyc q v hq) (fun q hq => ho0.row.cell _ (by omega)) (fun q _ => ho0.row.free _) hyo
  rw [e, hw1] at this
  exact this
 have k2 : (Builtin.copy_ #[157, 157] 3 #[.slice (some ⟨g, j * 6, none⟩) r r, .slice (some ⟨g, j * 6, none⟩) r r]).run Tryz.prog w1.drew = .ok (goInt (r : Nat)) w2 := by
  have e : Nat.min r r = r := Nat.min_eq_left Lr
  have := copyE_run w1.drew 3 g (j * 6) r r ⟨g, j * 6, none⟩ r r (xs.drop (j * 6)) (by rw [e, zK]; omega) (fun q v hq => by
   rw [Addr.add_lit]
   exact ho1.at_ _ v (by rw [← hd1, List.getElem?_drop] at hq; exact hq)) (fun q hq => ho1.drew.row.cell _ (by rw [zK] at hq; omega)) (fun q _ => ho1.drew.row.free _) (fun v hv => h.one v (List.mem_of_mem_drop hv))
  rw [e, hw2] at this
  exact this
 have HE : Hid (OwE w2 g sn (xs.take (i * 6) ++ ys ++ xs.drop (j * 6)) ∧ Cf (· = g) u w2) := zaa (by
  constructor
  ·have := ho1.drew.sets (j * 6) (xs.drop (j * 6)) (by rw [zK]; omega) (fun v hv => h.one v (List.mem_of_mem_drop hv))
   rw [hw2] at this
   have e : (xs.take (i * 6) ++ ys ++ xs.drop (j * 6)).take (j * 6) ++ xs.drop (j * 6) ++ (xs.take (i * 6) ++ ys ++ xs.drop (j * 6)).drop (j * 6 + (xs.drop (j * 6)).length) = xs.take (i * 6) ++ ys ++ xs.drop (j * 6) := by
    have hle : (xs.take (i * 6) ++ ys).length = j * 6 := by simp; omega
    have hz : (xs.take (i * 6) ++ ys ++ xs.drop (j * 6)).drop (j * 6 + (xs.drop (j * 6)).length) = [] := List.drop_of_length_le (by rw [zG, hle]; exact Lr)
    rw [hz, List.append_nil, List.take_append_of_le_length (by omega), List.take_of_length_le (by omega)]
   rw [e] at this
   exact this
  ·rw [← hw2]
   refine Cf.go ?_ (Cf.sets _ _ _ _)
   have hc : Cf (· = g) u w1 := by rw [← hw1, ← hw0]; exact Cf.go (Cf.of_below Br.drew) (Cf.sets _ _ _ _)
   exact hc.go (Cf.of_below Br.drew))
 have hcl : ∀ ty a cc, (Builtin.clear_ #[157] ty #[.slice a 0 cc]).run Tryz.prog w2 = .ok (.tuple #[]) w2 := fun ty a cc => clear_none w2 157 159 ty Tryz.underlying157 a cc
 clear h hy hyo hyc ho0 ho1 hd1 hw1 hw2 hl
 go_enter Tryz.func292, Tryz.ntmps292
 go_wp2_with fail
 go_region
 rw [hw0]
 clear hw0
 go_upto_region 18 with (at_builtin; refine copy_wp rfl _ _ _ _ rfl _ _ rfl rfl k1 ?_)
 go_wp2_with fail
 refine wp_region_held_drew (S := fun _ => True ∧ True) (by kernel_rfl) ⟨trivial, trivial⟩ (fun hHeld => ?_)
 refine zT (i := 0) (v := ?_) rfl ?_ (fun _ _ _ h => h) ?_
 rotate_left
 ·(rintro w ⟨_, _⟩; go_simp; try with_reducible rfl)
 try simp only [Act.put, zA, zC, zD, zE, zF]
 refine zT (i := 1) (v := ?_) rfl ?_ (fun _ _ _ h => h) ?_
 rotate_left
 ·(rintro w ⟨_, _⟩; go_simp; try with_reducible rfl)
 try simp only [Act.put, zA, zB, zC, zD, zE, zF]
 refine zT (i := 2) (v := ?_) rfl ?_ (fun _ _ _ h => h) ?_
 rotate_left
 ·(rintro w ⟨_, _⟩; go_simp; try with_reducible rfl)
 try simp only [Act.put, zA, zB, zC, zD, zE, zF]
 refine zT (i := 3) (v := ?_) rfl ?_ (fun _ _ _ h => h) ?_
 rotate_left
 ·(rintro w ⟨_, _⟩; go_simp; try with_reducible rfl)
 try simp only [Act.put, zA, zB, zC, zD, zE, zF]
 refine wpAnyH_take (i := 4) (v := .int .i64 (j : Int)) rfl (by kernel_rfl) (by kernel_rfl) (by kernel_rfl) (fun _ _ _ h => h) (Or.inl ⟨by rfl, ?_⟩) (by assumption) ?_
 ·intro w hSw
  go_simp
  try (rw [h13])
  try (rw [show IntKind.i64.wrap (j : Int) = (j : Int) by rw [IntKind.wrap_i64]; omega])
 try simp only [Act.put, zA, zB, zC, zD, zE, zF]
 refine wpAnyH_take (i := 5) (v := .slice (some ⟨g, j * 6, none⟩) r r) rfl (by kernel_rfl) (by kernel_rfl) (by kernel_rfl) (fun _ _ _ h => h) (Or.inl ⟨by rfl, ?_⟩) (by assumption) ?_
 ·intro w hSw
  go_simp
 try simp only [Act.put, zA, zB, zC, zD, zE, zF]
 refine zT (i := 6) (v := ?_) rfl ?_ (fun _ _ _ h => h) ?_
 rotate_left
 ·(rintro w ⟨_, _⟩; go_simp; try with_reducible rfl)
 try simp only [Act.put, zA, zB, zC, zD, zE, zF]
 refine zT (i := 7) (v := ?_) rfl ?_ (fun _ _ _ h => h) ?_
 rotate_left
 ·(rintro w ⟨_, _⟩; go_simp; try with_reducible rfl)
 try simp only [Act.put, zA, zB, zC, zD, zE, zF]
 refine wpAnyH_take (i := 8) (v := .slice (some ⟨g, j * 6, none⟩) r r) rfl (by kernel_rfl) (by kernel_rfl) (by kernel_rfl) (fun _ _ _ h => h) (Or.inl ⟨by rfl, ?_⟩) (by assumption) ?_
 ·intro w hSw
  go_simp
 try simp only [Act.put, zA, zB, zC, zD, zE, zF]
 refine zY (i := 9) rfl fun K hK => ?_
 refine copy_step rfl _ _ _ _ rfl _ _ (by rfl) (by rfl) k2 ?_
 refine hK.out _ _ ⟨trivial, trivial⟩ (fun hHeld => ?_)
 clear hK K
 refine wpAnyH_done (by kernel_rfl) ?_ _
 clear hHeld k1 k2
 go_wp2_with (at_builtin; refine zbk rfl _ _ rfl _ rfl (hcl _ _ _) ?_)
 go_ret
 exact ⟨rfl, zaa HE.out.1, zaa HE.out.2⟩
theorem appE_run (w : World) (ty : TypeId) (g n c : Nat) (a : Addr) (sl sc : Nat) (cs : List Value) (hn : cs.length = sl * 6)
  (hsrc : ∀ j v, cs[j]? = some v → w.cell? (a.add j) = some v) (hroom : n + sl ≤ c) (hc : ∀ j, j < cs.length → (w.cell? ⟨g, n * 6 + j, none⟩).isSome = true) (hf : ∀ j, j < cs.length → w.frozen? ⟨g, n * 6 + j, none⟩ = false) (h1 : ∀ v ∈ cs, v.oneCell' = true) :
  (Builtin.append_ #[157, 157] ty #[.slice (some ⟨g, 0, none⟩) n c, .slice (some a) sl sc]).run Tryz.prog w = .ok (.slice (some ⟨g, 0, none⟩) (n + sl) c) (w.setCells g (n * 6) cs) := by
 obtain ⟨ic, hic, hz0, hz1, hz2⟩ := info_parts infoE
 have hl := run_firstCells_some (P := Tryz.prog) w ic.size sl a sl sc cs (by rw [hz1]; exact hn) hsrc
 rw [hz1] at hl
 have hst := run_storeCells_cells (P := Tryz.prog) g (n * 6) cs 0 w (by simpa using hc) (by simpa using hf) h1
 simp only [Nat.add_zero] at hst
 simp [Builtin.append_, run_underlying Tryz.underlying157, Builtin.lenOf, sizeOf, typeInfo, hic, hz1, hroom, hl, Addr.add_lit, hst]
theorem repE_end (u : World) (g sn i : Nat) (xs ys : List Value) (h : OwE u g sn xs) (hij : i + 1 = sn) (hsn : sn ≤ 65535) (b bc : Nat) (hy : ys.length = 6) (hyo : ∀ v ∈ ys, v.oneCell' = true) (hyc : ∀ j v, ys[j]? = some v → u.cell? ⟨b, j, none⟩ = some v) :
  Calls Tryz.prog 292 #[.slice (some ⟨g, 0, none⟩) sn sn, .int .i64 (i : Int), .int .i64 (sn : Int), .slice (some ⟨b, 0, none⟩) 1 bc] u fun e w' => e = .returned (.slice (some ⟨g, 0, none⟩) sn sn) ∧ Hid (OwE w' g sn (xs.take (i * 6) ++ ys ++ xs.drop (sn * 6))) ∧ Hid (Cf (· = g) u w') := by
 have h1 : (i : Int) < (sn : Int) := by omega
 have h3 : (sn : Int) ≤ 65535 := by omega
 have h5 : i ≤ sn := by omega
 have h8 : ¬ sn = i := by omega
 have h11 : ¬ (i : Int) = (sn : Int) := by omega
 obtain ⟨w1, hw1⟩ : ∃ w1, u.setCells g (i * 6) ys = w1 := ⟨_, rfl⟩
 have HE : Hid (OwE w1 g sn (xs.take (i * 6) ++ ys ++ xs.drop (sn * 6)) ∧ Cf (· = g) u w1) := zaa (by
  constructor
  ·have := h.sets (i * 6) ys (by omega) hyo
   rw [hw1, show i * 6 + ys.length = sn * 6 by omega] at this
   exact this
  ·rw [← hw1]
   exact Cf.sets _ _ _ _)
 have hr : ∀ ty, (Builtin.append_ #[157, 157] ty #[.slice (some ⟨g, 0, none⟩) i sn, .slice (some ⟨b, 0, none⟩) 1 bc]).run Tryz.prog u = .ok (.slice (some ⟨g, 0, none⟩) sn sn) w1 := fun ty => by
  have := appE_run u ty g i sn ⟨b, 0, none⟩ 1 bc ys (by omega) (fun q v hq => by
   rw [Addr.add_lit, Nat.zero_add]
   exact hyc q v hq) (by omega) (fun q hq => h.row.cell _ (by omega)) (fun q _ => h.row.free _) hyo
  rw [hw1, hij] at this
  exact this
 clear h hy hyo hyc hw1
 go_enter Tryz.func292, Tryz.ntmps292
 go_wp2_with (at_builtin; refine zcj rfl _ _ _ _ rfl _ _ rfl rfl (hr _) ?_)
 go_ret
 exact ⟨rfl, zaa HE.out.1, zaa HE.out.2⟩
theorem repE_one (u : World) (g sn i j : Nat) (xs ys : List Value) (h : OwE u g sn xs) (hij : i + 1 = j) (hj : j ≤ sn) (hsn : sn ≤ 65535) (b bc : Nat) (hy : ys.length = 6) (hyo : ∀ v ∈ ys, v.oneCell' = true) (hyc : ∀ j v, ys[j]? = some v → u.cell? ⟨b, j, none⟩ = some v) :
  Calls Tryz.prog 292 #[.slice (some ⟨g, 0, none⟩) sn sn, .int .i64 (i : Int), .int .i64 (j : Int), .slice (some ⟨b, 0, none⟩) 1 bc] u fun e w' => e = .returned (.slice (some ⟨g, 0, none⟩) sn sn) ∧ Hid (OwE w' g sn (xs.take (i * 6) ++ ys ++ xs.drop (j * 6))) ∧ Hid (Cf (· = g) u w') := by
 by_cases e : j = sn
 ·subst e
  exact repE_end u g j i xs ys h hij hsn b bc hy hyo hyc
 ·exact repE_mid u g sn i j (sn - j) xs ys h hij (by omega) (by omega) hsn b bc hy hyo hyc
theorem zdp {ops : Array Oper} {o : Oper} {a : Act} {w : World} {K : Act → World → Prop} {Q : Exit → Act → World → Prop} {E : Prop}
  (hg : o.guard = none) (d x : Operand) (dT sT : TypeId) (hop : o.op = Op.call { callee := Callee.builtin Builtin.append, args := #[d, x], argTypes := #[dT, sT] })
  (v u : Value) (hd : a.eval d = v) (hx : a.eval x = u) {v' : Value} {w' : World} (hr : (Builtin.append_ #[dT, sT] o.type #[v, u]).run Tryz.prog w = .ok v' w') (hK : K (a.put o.dst v') w') :
  if Region.wanted o (yielded ops a.tmps) = true then Oper.wp Tryz.prog o a w K Q else E := by
 have hw : Region.wanted o (yielded ops a.tmps) = true := by simp [Region.wanted, hg]
 rw [if_pos hw]
 unfold Oper.wp
 simp [execOp, hop, resolve, invoke, builtin, hd, hx, hr, Result.andThen]
 exact hK
def zsE : List Value := [.slice none 0 0, .slice none 0 0, .int .i64 0, .slice none 0 0, .int .i64 0, .int .i64 0]
theorem clearE_run (w : World) (ty : TypeId) (g o c : Nat) (hc : ∀ j, j < 6 → (w.cell? ⟨g, o + j, none⟩).isSome = true) (hf : ∀ j, j < 6 → w.frozen? ⟨g, o + j, none⟩ = false) :
  (Builtin.clear_ #[157] ty #[.slice (some ⟨g, o, none⟩) 1 c]).run Tryz.prog w = .ok (.tuple #[]) (w.setCells g o zsE) := by
 obtain ⟨ic, hic, hz0, hz1, hz2⟩ := info_parts infoE
 have hv : (zeroValue 159).run Tryz.prog w = .ok (.agg #[.slice none 0 0, .slice none 0 0, .int .i64 0, .slice none 0 0, .int .i64 0, .int .i64 0]) w := by simp [zeroValue, typeInfo, hic, hz0]
 have hzc : (Builtin.zeroCells (Value.agg #[.slice none 0 0, .slice none 0 0, .int .i64 0, .slice none 0 0, .int .i64 0, .int .i64 0]).cells 1).toList = zsE := by
  first
  | kernel_rfl
  | decide
  | (apply List.ext_getElem
     ·simp [Builtin.zeroCells, zsE, Value.cells]
     ·intro i h1 h2
      simp [Builtin.zeroCells, zsE, Value.cells])
 have hst := run_storeCells_cells (P := Tryz.prog) g o zsE 0 w (by simpa [zsE] using hc) (by simpa [zsE] using hf) (by decide)
 simp only [Nat.add_zero] at hst
 simp [Builtin.clear_, run_underlying Tryz.underlying157, hv, hzc, hst]
theorem delE_mid (u : World) (g sn i j r d : Nat) (xs : List Value) (h : OwE u g sn xs) (hij : i + 1 = j) (hjr : j + r = sn) (hr0 : 0 < r) (hd : i + r = d) (hsn : sn ≤ 65535) :
  Calls Tryz.prog 283 #[.slice (some ⟨g, 0, none⟩) sn sn, .int .i64 (i : Int), .int .i64 (j : Int)] u fun e w' => e = .returned (.slice (some ⟨g, 0, none⟩) d sn) ∧ Hid (zag w' g sn ∧ ∀ q v, (xs.take (i * 6) ++ xs.drop (j * 6))[q]? = some v → w'.cell? ⟨g, q, none⟩ = some v) ∧ Hid (Cf (· = g) u w') := by
 have h1 : (i : Int) < (j : Int) := by omega
 have h2 : (j : Int) < (sn : Int) := by omega
 have h3 : (sn : Int) ≤ 65535 := by omega
 have h4 : sn - j = r := by omega
 have h5 : i ≤ sn := by omega
 have h6 : j ≤ sn := by omega
 have h7 : i ≤ j := by omega
 have h8 : ¬ sn = i := by omega
 have h9 : ¬ sn = j := by omega
 have h11 : ¬ (i : Int) = (j : Int) := by omega
 have h14 : sn - d = 1 := by omega
 have h15 : d ≤ sn := by omega
 have h16 : ¬ sn = d := by omega
 have h17 : (d : Int) < (sn : Int) := by omega
 have hl := h.len
 obtain ⟨w1, hw1⟩ : ∃ w1, u.drew.setCells g (i * 6) (xs.drop (j * 6)) = w1 := ⟨_, rfl⟩
 obtain ⟨w2, hw2⟩ : ∃ w2, w1.setCells g (d * 6) zsE = w2 := ⟨_, rfl⟩
 have hdl : (xs.drop (j * 6)).length = r * 6 := by rw [zK]; omega
 have ho1 : OwE w1 g sn (xs.take (i * 6) ++ xs.drop (j * 6) ++ xs.drop (d * 6)) := by
  have := h.drew.sets (i * 6) (xs.drop (j * 6)) (by omega) (fun v hv => h.one v (List.mem_of_mem_drop hv))
  rw [hw1, show i * 6 + (xs.drop (j * 6)).length = d * 6 by omega] at this
  exact this
 have hr : ∀ ty, (Builtin.append_ #[157, 157] ty #[.slice (some ⟨g, 0, none⟩) i sn, .slice (some ⟨g, j * 6, none⟩) r r]).run Tryz.prog u.drew = .ok (.slice (some ⟨g, 0, none⟩) d sn) w1 := fun ty => by
  have := appE_run u.drew ty g i sn ⟨g, j * 6, none⟩ r r (xs.drop (j * 6)) hdl (fun q v hq => by
   rw [Addr.add_lit]
   exact h.drew.at_ _ v (by rw [List.getElem?_drop] at hq; exact hq)) (by omega) (fun q hq => h.drew.row.cell _ (by omega)) (fun q _ => h.drew.row.free _) (fun v hv => h.one v (List.mem_of_mem_drop hv))
  rw [hw1, hd] at this
  exact this
 have hcl : ∀ ty cc, (Builtin.clear_ #[157] ty #[.slice (some ⟨g, d * 6, none⟩) 1 cc]).run Tryz.prog w1 = .ok (.tuple #[]) w2 := fun ty cc => by
  rw [← hw2]
  exact clearE_run w1 ty g (d * 6) cc (fun q hq => ho1.row.cell _ (by omega)) (fun q _ => ho1.row.free _)
 have HE : Hid ((zag w2 g sn ∧ ∀ q v, (xs.take (i * 6) ++ xs.drop (j * 6))[q]? = some v → w2.cell? ⟨g, q, none⟩ = some v) ∧ Cf (· = g) u w2) := zaa (by
  refine ⟨⟨by rw [← hw2]; exact zag.sets _ _ _ ho1.row, fun q v hq => ?_⟩, ?_⟩
  ·have hql := (zH.1 hq).1
   have e : (xs.take (i * 6) ++ xs.drop (j * 6)).length = d * 6 := by rw [zG, hdl, zJ]; omega
   rw [← hw2, World.cell?_setCells_out g _ _ _ _ (fun _ _ => .inl (by simp only; omega))]
   exact ho1.at_ q v (by rw [zL hql]; exact hq)
  ·rw [← hw2]
   refine Cf.go ?_ (Cf.sets _ _ _ _)
   rw [← hw1]
   exact Cf.go (Cf.of_below Br.drew) (Cf.sets _ _ _ _))
 clear h ho1 hw1 hw2 hl hdl
 go_enter Tryz.func283, Tryz.ntmps283
 go_upto_region 5 with fail
 go_wp2_with fail
 refine wp_region_held_drew (S := fun _ => True ∧ True) (by kernel_rfl) ⟨trivial, trivial⟩ (fun hHeld => ?_)
 refine zT (i := 0) (v := ?_) rfl ?_ (fun _ _ _ h => h) ?_
 rotate_left
 ·(rintro w ⟨_, _⟩; go_simp; try with_reducible rfl)
 try simp only [Act.put, zA, zC, zD, zE, zF]
 refine zT (i := 1) (v := ?_) rfl ?_ (fun _ _ _ h => h) ?_
 rotate_left
 ·(rintro w ⟨_, _⟩; go_simp; try with_reducible rfl)
 try simp only [Act.put, zA, zB, zC, zD, zE, zF]
 refine zT (i := 2) (v := ?_) rfl ?_ (fun _ _ _ h => h) ?_
 rotate_left
 ·(rintro w ⟨_, _⟩; go_simp; try with_reducible rfl)
 try simp only [Act.put, zA, zB, zC, zD, zE, zF]
 refine zT (i := 3) (v := ?_) rfl ?_ (fun _ _ _ h => h) ?_
 rotate_left
 ·(rintro w ⟨_, _⟩; go_simp; try with_reducible rfl)
 try simp only [Act.put, zA, zB, zC, zD, zE, zF]
 refine zT (i := 4) (v := ?_) rfl ?_ (fun _ _ _ h => h) ?_
 rotate_left
 ·(rintro w ⟨_, _⟩; go_simp; try with_reducible rfl)
 try simp only [Act.put, zA, zB, zC, zD, zE, zF]
 refine wpAnyH_take (i := 5) (v := .slice (some ⟨g, j * 6, none⟩) r r) rfl (by kernel_rfl) (by kernel_rfl) (by kernel_rfl) (fun _ _ _ h => h) (Or.inl ⟨by rfl, ?_⟩) (by assumption) ?_
 ·intro w hSw
  go_simp
 try simp only [Act.put, zA, zB, zC, zD, zE, zF]
 refine zY (i := 6) rfl fun K hK => ?_
 refine zdp rfl _ _ _ _ rfl _ _ (by rfl) (by rfl) (hr _) ?_
 refine hK.out _ _ ⟨trivial, trivial⟩ (fun hHeld => ?_)
 clear hK K
 try simp only [Act.put, zA, zB, zC, zD, zE, zF]
 refine zT (i := 7) (v := ?_) rfl ?_ (fun _ _ _ h => h) ?_
 rotate_left
 ·(rintro w ⟨_, _⟩; go_simp; try with_reducible rfl)
 try simp only [Act.put, zA, zB, zC, zD, zE]
 refine wpAnyH_done (by kernel_rfl) ?_ _
 clear hHeld hr
 go_wp2_with (at_builtin; refine zbk rfl _ _ rfl _ rfl (hcl _ _) ?_)
 go_ret
 exact ⟨rfl, zaa HE.out.1, zaa HE.out.2⟩
theorem delE_end (u : World) (g sn i j r d : Nat) (xs : List Value) (h : OwE u g sn xs) (hij : i + 1 = j) (hjr : j + r = sn) (hr0 : r = 0) (hd : i + r = d) (hsn : sn ≤ 65535) :
  Calls Tryz.prog 283 #[.slice (some ⟨g, 0, none⟩) sn sn, .int .i64 (i : Int), .int .i64 (j : Int)] u fun e w' => e = .returned (.slice (some ⟨g, 0, none⟩) d sn) ∧ Hid (zag w' g sn ∧ ∀ q v, (xs.take (i * 6) ++ xs.drop (j * 6))[q]? = some v → w'.cell? ⟨g, q, none⟩ = some v) ∧ Hid (Cf (· = g) u w') := by
 have h1 : (i : Int) < (j : Int) := by omega
 have h2 : (j : Int) ≤ (sn : Int) := by omega
 have h3 : (sn : Int) ≤ 65535 := by omega
 have h4 : sn - j = r := by omega
 have h5 : i ≤ sn := by omega
 have h6 : j ≤ sn := by omega
 have h7 : i ≤ j := by omega
 have h8 : ¬ sn = i := by omega
 have h9 : sn = j := by omega
 have h11 : ¬ (i : Int) = (j : Int) := by omega
 have h14 : sn - d = 1 := by omega
 have h15 : d ≤ sn := by omega
 have h16 : ¬ sn = d := by omega
 have h17 : (d : Int) < (sn : Int) := by omega
 have hl := h.len
 obtain ⟨w1, hw1⟩ : ∃ w1, u.drew.setCells g (i * 6) (xs.drop (j * 6)) = w1 := ⟨_, rfl⟩
 obtain ⟨w2, hw2⟩ : ∃ w2, w1.setCells g (d * 6) zsE = w2 := ⟨_, rfl⟩
 have hdl : (xs.drop (j * 6)).length = r * 6 := by rw [zK]; omega
 have ho1 : OwE w1 g sn (xs.take (i * 6) ++ xs.drop (j * 6) ++ xs.drop (d * 6)) := by
  have := h.drew.sets (i * 6) (xs.drop (j * 6)) (by omega) (fun v hv => h.one v (List.mem_of_mem_drop hv))
  rw [hw1, show i * 6 + (xs.drop (j * 6)).length = d * 6 by omega] at this
  exact this
 have hr : ∀ ty, (Builtin.append_ #[157, 157] ty #[.slice (some ⟨g, 0, none⟩) i sn, .slice (some ⟨g, 0, none⟩) r r]).run Tryz.prog u.drew = .ok (.slice (some ⟨g, 0, none⟩) d sn) w1 := fun ty => by
  have := appE_run u.drew ty g i sn ⟨g, 0, none⟩ r r (xs.drop (j * 6)) hdl (fun q v hq => by
   have := (zH.1 hq).1
   omega) (by omega) (fun q hq => h.drew.row.cell _ (by omega)) (fun q _ => h.drew.row.free _) (fun v hv => h.one v (List.mem_of_mem_drop hv))
  rw [hw1, hd] at this
  exact this
 have hcl : ∀ ty cc, (Builtin.clear_ #[157] ty #[.slice (some ⟨g, d * 6, none⟩) 1 cc]).run Tryz.prog w1 = .ok (.tuple #[]) w2 := fun ty cc => by
  rw [← hw2]
  exact clearE_run w1 ty g (d * 6) cc (fun q hq => ho1.row.cell _ (by omega)) (fun q _ => ho1.row.free _)
 have HE : Hid ((zag w2 g sn ∧ ∀ q v, (xs.take (i * 6) ++ xs.drop (j * 6))[q]? = some v → w2.cell? ⟨g, q, none⟩ = some v) ∧ Cf (· = g) u w2) := zaa (by
  refine ⟨⟨by rw [← hw2]; exact zag.sets _ _ _ ho1.row, fun q v hq => ?_⟩, ?_⟩
  ·have hql := (zH.1 hq).1
   have e : (xs.take (i * 6) ++ xs.drop (j * 6)).length = d * 6 := by rw [zG, hdl, zJ]; omega
   rw [← hw2, World.cell?_setCells_out g _ _ _ _ (fun _ _ => .inl (by simp only; omega))]
   exact ho1.at_ q v (by rw [zL hql]; exact hq)
  ·rw [← hw2]
   refine Cf.go ?_ (Cf.sets _ _ _ _)
   rw [← hw1]
   exact Cf.go (Cf.of_below Br.drew) (Cf.sets _ _ _ _))
 clear h ho1 hw1 hw2 hl hdl
 subst hr0
 subst h9
 go_enter Tryz.func283, Tryz.ntmps283
 go_upto_region 5 with fail
 go_wp2_with fail
 refine wp_region_held_drew (S := fun _ => True ∧ True) (by kernel_rfl) ⟨trivial, trivial⟩ (fun hHeld => ?_)
 refine zT (i := 0) (v := ?_) rfl ?_ (fun _ _ _ h => h) ?_
 rotate_left
 ·(rintro w ⟨_, _⟩; go_simp; try with_reducible rfl)
 try simp only [Act.put, zA, zC, zD, zE, zF]
 refine zT (i := 1) (v := ?_) rfl ?_ (fun _ _ _ h => h) ?_
 rotate_left
 ·(rintro w ⟨_, _⟩; go_simp; try with_reducible rfl)
 try simp only [Act.put, zA, zB, zC, zD, zE, zF]
 refine zT (i := 2) (v := ?_) rfl ?_ (fun _ _ _ h => h) ?_
 rotate_left
 ·(rintro w ⟨_, _⟩; go_simp; try with_reducible rfl)
 try simp only [Act.put, zA, zB, zC, zD, zE, zF]
 refine zT (i := 3) (v := ?_) rfl ?_ (fun _ _ _ h => h) ?_
 rotate_left
 ·(rintro w ⟨_, _⟩; go_simp; try with_reducible rfl)
 try simp only [Act.put, zA, zB, zC, zD, zE, zF]
 refine zT (i := 4) (v := ?_) rfl ?_ (fun _ _ _ h => h) ?_
 rotate_left
 ·(rintro w ⟨_, _⟩; go_simp; try with_reducible rfl)
 try simp only [Act.put, zA, zB, zC, zD, zE, zF]
 refine wpAnyH_take (i := 5) (v := .slice (some ⟨g, 0, none⟩) 0 0) rfl (by kernel_rfl) (by kernel_rfl) (by kernel_rfl) (fun _ _ _ h => h) (Or.inl ⟨by rfl, ?_⟩) (by assumption) ?_
 ·intro w hSw
  go_simp
 try simp only [Act.put, zA, zB, zC, zD, zE, zF]
 refine zY (i := 6) rfl fun K hK => ?_
 refine zdp rfl _ _ _ _ rfl _ _ (by rfl) (by rfl) (hr _) ?_
 refine hK.out _ _ ⟨trivial, trivial⟩ (fun hHeld => ?_)
 clear hK K
 try simp only [Act.put, zA, zB, zC, zD, zE, zF]
 refine zT (i := 7) (v := ?_) rfl ?_ (fun _ _ _ h => h) ?_
 rotate_left
 ·(rintro w ⟨_, _⟩; go_simp; try with_reducible rfl)
 try simp only [Act.put, zA, zB, zC, zD, zE]
 refine wpAnyH_done (by kernel_rfl) ?_ _
 clear hHeld hr
 go_wp2_with (at_builtin; refine zbk rfl _ _ rfl _ rfl (hcl _ _) ?_)
 go_ret
 exact ⟨rfl, zaa HE.out.1, zaa HE.out.2⟩
theorem appN_run (w : World) (ty : TypeId) (g n c : Nat) (a : Addr) (sl sc : Nat) (cs : List Value) (hn : cs.length = sl)
  (hsrc : ∀ j v, cs[j]? = some v → w.cell? (a.add j) = some v) (hroom : n + sl ≤ c) (hc : ∀ j, j < cs.length → (w.cell? ⟨g, n + j, none⟩).isSome = true) (hf : ∀ j, j < cs.length → w.frozen? ⟨g, n + j, none⟩ = false) (h1 : ∀ v ∈ cs, v.oneCell' = true) :
  (Builtin.append_ #[152, 152] ty #[.slice (some ⟨g, 0, none⟩) n c, .slice (some a) sl sc]).run Tryz.prog w = .ok (.slice (some ⟨g, 0, none⟩) (n + sl) c) (w.setCells g n cs) := by
 obtain ⟨ic, hic, hz0, hz1, hz2⟩ := info_parts infoI
 have hl := run_firstCells_some (P := Tryz.prog) w ic.size sl a sl sc cs (by rw [hz1]; omega) hsrc
 rw [hz1] at hl
 have hst := run_storeCells_cells (P := Tryz.prog) g n cs 0 w (by simpa using hc) (by simpa using hf) h1
 simp only [Nat.add_zero] at hst
 simp [Builtin.append_, run_underlying Tryz.underlying152, Builtin.lenOf, sizeOf, typeInfo, hic, hz1, hroom, hl, Addr.add_lit, hst]
theorem delN_mid (u : World) (B g sn c i j r d : Nat) (xs : List Value) (h : u.ownsRow B 3 1 (.slice (some ⟨g, 0, none⟩) sn c) sn xs) (hx1 : ∀ v ∈ xs, v.oneCell' = true) (hij : i + 1 = j) (hjr : j + r = sn) (hr0 : ¬ c = j) (hd : i + r = d) (hsn : sn ≤ 65535) :
  Calls Tryz.prog 285 #[.slice (some ⟨g, 0, none⟩) sn c, .int .i64 (i : Int), .int .i64 (j : Int)] u fun e w' => e = .returned (.slice (some ⟨g, 0, none⟩) d c) ∧ Hid (w'.ownsRow B 3 1 (.slice (some ⟨g, 0, none⟩) d c) d (xs.take i ++ xs.drop j)) ∧ Hid (u.grownBy w' (some g)) := by
 obtain ⟨hrow, hgB, hnc, hcm, hl, hxc⟩ := zan h
 have h1 : (i : Int) < (j : Int) := by omega
 have h2 : (j : Int) ≤ (sn : Int) := by omega
 have h3 : (sn : Int) ≤ 65535 := by omega
 have h4 : sn - j = r := by omega
 have h5 : i ≤ sn := by omega
 have h6 : j ≤ sn := by omega
 have h7 : i ≤ j := by omega
 have h8 : ¬ sn = i := by omega
 have h10 : (sn : Int) ≤ (c : Int) := by omega
 have h11 : ¬ (i : Int) = (j : Int) := by omega
 have h12 : ¬ c = i := by omega
 have h13 : i ≤ c := by omega
 have h14 : sn - d = 1 := by omega
 have h15 : d ≤ sn := by omega
 have h16 : ¬ c = d := by omega
 have h17 : (d : Int) < (sn : Int) := by omega
 have h18 : sn ≤ c := hnc
 obtain ⟨w1, hw1⟩ : ∃ w1, u.drew.setCells g i (xs.drop j) = w1 := ⟨_, rfl⟩
 obtain ⟨w2, hw2⟩ : ∃ w2, w1.setCells g d (List.replicate 1 (.int .i64 0)) = w2 := ⟨_, rfl⟩
 have hdl : (xs.drop j).length = r := by rw [zK]; omega
 have hrow0 := hrow.on (w' := u.drew) rfl
 have hrow1 := hrow0.sets (xs.drop j) i u.drew
 rw [hw1] at hrow1
 have hrow2 := hrow1.sets (List.replicate 1 (.int .i64 0)) d w1
 rw [hw2] at hrow2
 have hr : ∀ ty, (Builtin.append_ #[152, 152] ty #[.slice (some ⟨g, 0, none⟩) i c, .slice (some ⟨g, j, none⟩) r (c - j)]).run Tryz.prog u.drew = .ok (.slice (some ⟨g, 0, none⟩) d c) w1 := fun ty => by
  have := appN_run u.drew ty g i c ⟨g, j, none⟩ r (c - j) (xs.drop j) hdl (fun q v hq => by
   rw [Addr.add_lit]
   exact hxc _ v (by rw [List.getElem?_drop] at hq; exact hq)) (by omega) (fun q hq => hrow0.there (by omega)) (fun q _ => hrow0.free _) (fun v hv => hx1 v (List.mem_of_mem_drop hv))
  rw [hw1, hd] at this
  exact this
 have hcl : ∀ ty cc, (Builtin.clear_ #[152] ty #[.slice (some ⟨g, d, none⟩) 1 cc]).run Tryz.prog w1 = .ok (.tuple #[]) w2 := fun ty cc => by
  rw [← hw2]
  exact Lib.run_clear_slice w1 152 3 ty (.int .i64 0) Tryz.underlying152 RN.zero_run rfl rfl g d 1 cc (by omega) (fun t ht => hrow1.there (by omega)) (fun t _ => hrow1.free _)
 have HE : Hid (w2.ownsRow B 3 1 (.slice (some ⟨g, 0, none⟩) d c) d (xs.take i ++ xs.drop j) ∧ u.grownBy w2 (some g)) := zaa (by
  have e : (xs.take i ++ xs.drop j).length = d := by rw [zG, hdl, zJ]; omega
  refine ⟨hrow2.own hcm hgB (by omega) e (fun q v hq => ?_), ?_⟩
  ·have hql := (zH.1 hq).1
   rw [← hw2, hrow1.cell _ _ (by simp; omega), if_neg (by omega), ← hw1, hrow0.cell _ _ (by omega)]
   by_cases hqi : q < i
   ·rw [if_neg (by omega)]
    rw [zL (by rw [zJ]; omega), List.getElem?_take, if_pos hqi] at hq
    exact hxc q v hq
   ·rw [if_pos (by omega)]
    rw [List.getElem?_append_right (by rw [zJ]; omega), zJ, show min i xs.length = i by omega] at hq
    exact hq
  ·rw [← hw2, ← hw1]
   exact zau (zau (zbp (zby _ _)) (zap g _ _ _)) (zap g _ _ _))
 clear h hx1 hrow hrow0 hrow1 hrow2 hxc hw1 hw2 hl hdl hcm hgB hnc
 go_enter Tryz.func285, Tryz.ntmps285
 go_upto_region 5 with fail
 go_wp2_with fail
 refine wp_region_held_drew (S := fun _ => True ∧ True) (by kernel_rfl) ⟨trivial, trivial⟩ (fun hHeld => ?_)
 refine zT (i := 0) (v := ?_) rfl ?_ (fun _ _ _ h => h) ?_
 rotate_left
 ·(rintro w ⟨_, _⟩; go_simp; try with_reducible rfl)
 try simp only [Act.put, zA, zC, zD, zE, zF]
 refine zT (i := 1) (v := ?_) rfl ?_ (fun _ _ _ h => h) ?_
 rotate_left
 ·(rintro w ⟨_, _⟩; go_simp; try with_reducible rfl)
 try simp only [Act.put, zA, zB, zC, zD, zE, zF]
 refine zT (i := 2) (v := ?_) rfl ?_ (fun _ _ _ h => h) ?_
 rotate_left
 ·(rintro w ⟨_, _⟩; go_simp; try with_reducible rfl)
 try simp only [Act.put, zA, zB, zC, zD, zE, zF]
 refine zT (i := 3) (v := ?_) rfl ?_ (fun _ _ _ h => h) ?_
 rotate_left
 ·(rintro w ⟨_, _⟩; go_simp; try with_reducible rfl)
 try simp only [Act.put, zA, zB, zC, zD, zE, zF]
 refine zT (i := 4) (v := ?_) rfl ?_ (fun _ _ _ h => h) ?_
 rotate_left
 ·(rintro w ⟨_, _⟩; go_simp; try with_reducible rfl)
 try simp only [Act.put, zA, zB, zC, zD, zE, zF]
 refine wpAnyH_take (i := 5) (v := .slice (some ⟨g, j, none⟩) r (c - j)) rfl (by kernel_rfl) (by kernel_rfl) (by kernel_rfl) (fun _ _ _ h => h) (Or.inl ⟨by rfl, ?_⟩) (by assumption) ?_
 ·intro w hSw
  go_simp
 try simp only [Act.put, zA, zB, zC, zD, zE, zF]
 refine zY (i := 6) rfl fun K hK => ?_
 refine zdp rfl _ _ _ _ rfl _ _ (by rfl) (by rfl) (hr _) ?_
 refine hK.out _ _ ⟨trivial, trivial⟩ (fun hHeld => ?_)
 clear hK K
 try simp only [Act.put, zA, zB, zC, zD, zE, zF]
 refine zT (i := 7) (v := ?_) rfl ?_ (fun _ _ _ h => h) ?_
 rotate_left
 ·(rintro w ⟨_, _⟩; go_simp; try with_reducible rfl)
 try simp only [Act.put, zA, zB, zC, zD, zE]
 refine wpAnyH_done (by kernel_rfl) ?_ _
 clear hHeld hr
 go_wp2_with (at_builtin; refine zbk rfl _ _ rfl _ rfl (hcl _ _) ?_)
 go_ret
 exact ⟨rfl, zaa HE.out.1, zaa HE.out.2⟩
theorem delN_end (u : World) (B g sn c i j r d : Nat) (xs : List Value) (h : u.ownsRow B 3 1 (.slice (some ⟨g, 0, none⟩) sn c) sn xs) (hx1 : ∀ v ∈ xs, v.oneCell' = true) (hij : i + 1 = j) (hjr : j + r = sn) (hr0 : c = j) (hd : i + r = d) (hsn : sn ≤ 65535) :
  Calls Tryz.prog 285 #[.slice (some ⟨g, 0, none⟩) sn c, .int .i64 (i : Int), .int .i64 (j : Int)] u fun e w' => e = .returned (.slice (some ⟨g, 0, none⟩) d c) ∧ Hid (w'.ownsRow B 3 1 (.slice (some ⟨g, 0, none⟩) d c) d (xs.take i ++ xs.drop j)) ∧ Hid (u.grownBy w' (some g)) := by
 obtain ⟨hrow, hgB, hnc, hcm, hl, hxc⟩ := zan h
 have h1 : (i : Int) < (j : Int) := by omega
 have h2 : (j : Int) ≤ (sn : Int) := by omega
 have h3 : (sn : Int) ≤ 65535 := by omega
 have h4 : sn - j = r := by omega
 have h5 : i ≤ sn := by omega
 have h6 : j ≤ sn := by omega
 have h7 : i ≤ j := by omega
 have h8 : ¬ sn = i := by omega
 have h10 : (sn : Int) ≤ (c : Int) := by omega
 have h11 : ¬ (i : Int) = (j : Int) := by omega
 have h12 : ¬ c = i := by omega
 have h13 : i ≤ c := by omega
 have h14 : sn - d = 1 := by omega
 have h15 : d ≤ sn := by omega
 have h16 : ¬ c = d := by omega
 have h17 : (d : Int) < (sn : Int) := by omega
 have h18 : sn ≤ c := hnc
 obtain ⟨w1, hw1⟩ : ∃ w1, u.drew.setCells g i (xs.drop j) = w1 := ⟨_, rfl⟩
 obtain ⟨w2, hw2⟩ : ∃ w2, w1.setCells g d (List.replicate 1 (.int .i64 0)) = w2 := ⟨_, rfl⟩
 have hdl : (xs.drop j).length = r := by rw [zK]; omega
 have hrow0 := hrow.on (w' := u.drew) rfl
 have hrow1 := hrow0.sets (xs.drop j) i u.drew
 rw [hw1] at hrow1
 have hrow2 := hrow1.sets (List.replicate 1 (.int .i64 0)) d w1
 rw [hw2] at hrow2
 have hr : ∀ ty, (Builtin.append_ #[152, 152] ty #[.slice (some ⟨g, 0, none⟩) i c, .slice (some ⟨g, 0, none⟩) r (c - j)]).run Tryz.prog u.drew = .ok (.slice (some ⟨g, 0, none⟩) d c) w1 := fun ty => by
  have := appN_run u.drew ty g i c ⟨g, 0, none⟩ r (c - j) (xs.drop j) hdl (fun q v hq => by
   have := (zH.1 hq).1
   omega) (by omega) (fun q hq => hrow0.there (by omega)) (fun q _ => hrow0.free _) (fun v hv => hx1 v (List.mem_of_mem_drop hv))
  rw [hw1, hd] at this
  exact this
 have hcl : ∀ ty cc, (Builtin.clear_ #[152] ty #[.slice (some ⟨g, d, none⟩) 1 cc]).run Tryz.prog w1 = .ok (.tuple #[]) w2 := fun ty cc => by
  rw [← hw2]
  exact Lib.run_clear_slice w1 152 3 ty (.int .i64 0) Tryz.underlying152 RN.zero_run rfl rfl g d 1 cc (by omega) (fun t ht => hrow1.there (by omega)) (fun t _ => hrow1.free _)
 have HE : Hid (w2.ownsRow B 3 1 (.slice (some ⟨g, 0, none⟩) d c) d (xs.take i ++ xs.drop j) ∧ u.grownBy w2 (some g)) := zaa (by
  have e : (xs.take i ++ xs.drop j).length = d := by rw [zG, hdl, zJ]; omega
  refine ⟨hrow2.own hcm hgB (by omega) e (fun q v hq => ?_), ?_⟩
  ·have hql := (zH.1 hq).1
   rw [← hw2, hrow1.cell _ _ (by simp; omega), if_neg (by omega), ← hw1, hrow0.cell _ _ (by omega)]
   by_cases hqi : q < i
   ·rw [if_neg (by omega)]
    rw [zL (by rw [zJ]; omega), List.getElem?_take, if_pos hqi] at hq
    exact hxc q v hq
   ·rw [if_pos (by omega)]
    rw [List.getElem?_append_right (by rw [zJ]; omega), zJ, show min i xs.length = i by omega] at hq
    exact hq
  ·rw [← hw2, ← hw1]
   exact zau (zau (zbp (zby _ _)) (zap g _ _ _)) (zap g _ _ _))
 clear h hx1 hrow hrow0 hrow1 hrow2 hxc hw1 hw2 hl hdl hcm hgB hnc
 obtain rfl : r = 0 := by omega
 obtain rfl : sn = j := by omega
 subst hr0
 simp only [Nat.sub_self] at hr
 go_enter Tryz.func285, Tryz.ntmps285
 go_upto_region 5 with fail
 go_wp2_with fail
 refine wp_region_held_drew (S := fun _ => True ∧ True) (by kernel_rfl) ⟨trivial, trivial⟩ (fun hHeld => ?_)
 refine zT (i := 0) (v := ?_) rfl ?_ (fun _ _ _ h => h) ?_
 rotate_left
 ·(rintro w ⟨_, _⟩; go_simp; try with_reducible rfl)
 try simp only [Act.put, zA, zC, zD, zE, zF]
 refine zT (i := 1) (v := ?_) rfl ?_ (fun _ _ _ h => h) ?_
 rotate_left
 ·(rintro w ⟨_, _⟩; go_simp; try with_reducible rfl)
 try simp only [Act.put, zA, zB, zC, zD, zE, zF]
 refine zT (i := 2) (v := ?_) rfl ?_ (fun _ _ _ h => h) ?_
 rotate_left
 ·(rintro w ⟨_, _⟩; go_simp; try with_reducible rfl)
 try simp only [Act.put, zA, zB, zC, zD, zE, zF]
 refine zT (i := 3) (v := ?_) rfl ?_ (fun _ _ _ h => h) ?_
 rotate_left
 ·(rintro w ⟨_, _⟩; go_simp; try with_reducible rfl)
 try simp only [Act.put, zA, zB, zC, zD, zE, zF]
 refine zT (i := 4) (v := ?_) rfl ?_ (fun _ _ _ h => h) ?_
 rotate_left
 ·(rintro w ⟨_, _⟩; go_simp; try with_reducible rfl)
 try simp only [Act.put, zA, zB, zC, zD, zE, zF]
 refine wpAnyH_take (i := 5) (v := .slice (some ⟨g, 0, none⟩) 0 0) rfl (by kernel_rfl) (by kernel_rfl) (by kernel_rfl) (fun _ _ _ h => h) (Or.inl ⟨by rfl, ?_⟩) (by assumption) ?_
 ·intro w hSw
  go_simp
 try simp only [Act.put, zA, zB, zC, zD, zE, zF]
 refine zY (i := 6) rfl fun K hK => ?_
 refine zdp rfl _ _ _ _ rfl _ _ (by rfl) (by rfl) (hr _) ?_
 refine hK.out _ _ ⟨trivial, trivial⟩ (fun hHeld => ?_)
 clear hK K
 try simp only [Act.put, zA, zB, zC, zD, zE, zF]
 refine zT (i := 7) (v := ?_) rfl ?_ (fun _ _ _ h => h) ?_
 rotate_left
 ·(rintro w ⟨_, _⟩; go_simp; try with_reducible rfl)
 try simp only [Act.put, zA, zB, zC, zD, zE]
 refine wpAnyH_done (by kernel_rfl) ?_ _
 clear hHeld hr
 go_wp2_with (at_builtin; refine zbk rfl _ _ rfl _ rfl (hcl _ _) ?_)
 go_ret
 exact ⟨rfl, zaa HE.out.1, zaa HE.out.2⟩
def CopQ (key val : List Int) (kn : Nat) (kd : Int) (vn : Nat) (pg ct : Int) (w : World) (e : Ending) (w' : World) : Prop :=
 ∃ a1 c1 g2, e = .returned (.agg #[.slice a1 kn c1, .int .i64 kd, .slice (some ⟨g2, 0, none⟩) vn vn, .int .i64 pg, .int .i64 ct]) ∧ Hid (OwnB w' w.heap.size (.slice a1 kn c1) key ∧ Bk w' g2 val ∧ w.heap.size ≤ g2 ∧ (Value.slice a1 kn c1).ownBlock ≠ some g2) ∧ Hid (Below w.heap.size w w')
theorem OwnB.same {w w' : World} {B : Nat} {v : Value} {l : List Int} (h : OwnB w B v l) (hb : ∀ k, v.ownBlock = some k → w'.heap[k]? = w.heap[k]?) : OwnB w' B v l := by
 unfold OwnB at *
 refine ⟨h.1, ?_⟩
 rcases h.2 with h2 | ⟨g, cap, cur, e, hg, hh, r⟩
 ·exact .inl h2
 ·exact .inr ⟨g, cap, cur, e, hg, (hb g (by rw [e]; rfl)).trans hh, r⟩
theorem ecopied_any (ho : Option Addr) (hn hc : Nat) (ko : Option Addr) (kn kc : Nat) (kd : Int) (vo : Option Addr) (vn vc : Nat) (pg ct : Int) (h key val : List Int) (K : Nat) (w : World) (hh : Sl w ho hn hc h) (hk : Sl w ko kn kc key) (hv : Sl w vo vn vc val) (hK : hn + kn = K) (hb : K ≤ 140737488355328) :
  Calls Tryz.prog 161 #[.agg #[.slice ho hn hc, .slice ko kn kc, .int .i64 kd, .slice vo vn vc, .int .i64 pg, .int .i64 ct]] w fun e w' => CopQ (h ++ key) val K kd vn pg ct w e w' := by
 obtain ⟨i0, hi, hz0, hz1, hz2⟩ := info_parts zaw
 have hsz : (Tryz.prog.info? 5).map (·.size) = some 1 := by rw [hi]; simp [hz1]
 obtain ⟨s, hs⟩ : ∃ s, w.heap.size = s := ⟨_, rfl⟩
 have HSW := zaa hs
 obtain ⟨x, hx⟩ : ∃ x, ((w.alloc (.cells #[.slice ho hn hc, .slice ko kn kc, .int .i64 kd, .slice vo vn vc, .int .i64 pg, .int .i64 ct] 159)).alloc (.cells #[.slice none 0 0, .int .i64 0, .slice none 0 0, .int .i64 0, .int .i64 0] 43)).alloc (.cells #[.slice ko kn kc, .int .i64 kd, .slice vo vn vc, .int .i64 pg, .int .i64 ct] 43) = x := ⟨_, rfl⟩
 have hbx : Below w.heap.size w x := by rw [← hx]; exact zac (zac (zac Br Lr _) Lr _) Lr _
 have z1 : (w.alloc (.cells #[.slice ho hn hc, .slice ko kn kc, .int .i64 kd, .slice vo vn vc, .int .i64 pg, .int .i64 ct] 159)).heap.size = s + 1 := by rw [← hs]; simp
 have z2 : ((w.alloc (.cells #[.slice ho hn hc, .slice ko kn kc, .int .i64 kd, .slice vo vn vc, .int .i64 pg, .int .i64 ct] 159)).alloc (.cells #[.slice none 0 0, .int .i64 0, .slice none 0 0, .int .i64 0, .int .i64 0] 43)).heap.size = s + 2 := by rw [← hs]; simp
 have HE : Hid (E6 x s (.slice ho hn hc) (.slice ko kn kc) (.int .i64 kd) (.slice vo vn vc) (.int .i64 pg) (.int .i64 ct)) := by
  rw [← hx, ← hs]
  exact zaa (zaf (zaf (E6.box w _ _ _ _ _ _) (zac Br Lr _)) (zac Br Lr _))
 have HR : Hid (C5 x (s + 1) (.slice none 0 0) (.int .i64 0) (.slice none 0 0) (.int .i64 0) (.int .i64 0)) := by
  rw [← hx, ← z1]
  exact zaa (zaf (C5.box _ _ _ _ _ _) (zac Br Lr _))
 have HC : Hid (C5 x (s + 2) (.slice ko kn kc) (.int .i64 kd) (.slice vo vn vc) (.int .i64 pg) (.int .i64 ct)) := by
  rw [← hx, ← z2]
  exact zaa (C5.box _ _ _ _ _ _)
 have HXS : Hid (x.heap.size = s + 3) := zaa (by rw [← hx, ← hs]; simp)
 have HV := zaa (hv.on Lr hbx)
 have HBX := zaa hbx
 have HK := zaa (keyq_any ho hn hc ko kn kc kd vo vn vc pg ct h key x (hh.on Lr hbx) (hk.on Lr hbx) (by omega))
 unfold eV at HK
 have HKL : Hid ((h ++ key).length = K) := zaa (by rw [zG, hh.hlen, hk.hlen, hK])
 have hvr := hv.hroom
 obtain ⟨c0, c1, c2, c3, c4, c5⟩ := HE.out.cells
 clear hh hk hv hbx z1 z2
 go_enter Tryz.func161, Tryz.ntmps161
 go_wp2_with (go_at_call 202; refine HK.out.mono ?_; rintro e w1 ⟨v1, rfl, HO1, HB1⟩; refine Hid.out ?_)
 apply zaa
 have ho1 := HO1.out
 obtain ⟨a1, k1, rfl⟩ := ho1.shape
 rw [HKL.out] at ho1 ⊢
 have HO1 := zaa ho1
 clear ho1
 have HC1 : Hid (C5 w1 (s + 2) (.slice ko kn kc) (.int .i64 kd) (.slice vo vn vc) (.int .i64 pg) (.int .i64 ct)) := zaa (zaf HC.out HB1.out)
 have HE1 : Hid (E6 w1 s (.slice ho hn hc) (.slice ko kn kc) (.int .i64 kd) (.slice vo vn vc) (.int .i64 pg) (.int .i64 ct)) := zaa (zaf HE.out HB1.out)
 have HR1 : Hid (C5 w1 (s + 1) (.slice none 0 0) (.int .i64 0) (.slice none 0 0) (.int .i64 0) (.int .i64 0)) := zaa (zaf HR.out HB1.out)
 have HV1 : Hid (Sl w1 vo vn vc val) := zaa (HV.out.on Lr HB1.out)
 have hap := HO1.out.apart5 HC1.out
 obtain ⟨y, hy⟩ : ∃ y, w1.setCell ⟨s + 2, 0, none⟩ (.slice a1 K k1) = y := ⟨_, rfl⟩
 have hcy : Cf (· = s + 2) w1 y := by rw [← hy]; exact Cf.set _ _ _ _
 have HC2 : Hid (C5 y (s + 2) (.slice a1 K k1) (.int .i64 kd) (.slice vo vn vc) (.int .i64 pg) (.int .i64 ct)) := zaa (by rw [← hy]; exact (HC1.out.set _).1)
 have HE2 : Hid (E6 y s (.slice ho hn hc) (.slice ko kn kc) (.int .i64 kd) (.slice vo vn vc) (.int .i64 pg) (.int .i64 ct)) := zaa (HE1.out.cf hcy (by omega))
 have HR2 : Hid (C5 y (s + 1) (.slice none 0 0) (.int .i64 0) (.slice none 0 0) (.int .i64 0) (.int .i64 0)) := zaa (HR1.out.cf hcy (by omega))
 have HV2 : Hid (Sl y vo vn vc val) := zaa (HV1.out.cf hcy (HV1.out.apart5 HC1.out))
 have HO2 : Hid (OwnB y (s + 3) (.slice a1 K k1) (h ++ key)) := zaa (by rw [← HXS.out]; exact HO1.out.cf hcy hap)
 have HB2 : Hid (Below w.heap.size w y) := zaa ((zab HBX.out Lr HB1.out).trans (hcy.below (zN HBX.out.size HB1.out.size) (by intro i hi e; omega)))
 obtain ⟨f0, f1, f2, f3, f4⟩ := HC1.out.free
 obtain ⟨d0, d1, d2, d3, d4⟩ := HC1.out.cells
 clear c0 c1 c2 c3 c4 c5
 obtain ⟨c0, c1, c2, c3, c4, c5⟩ := HE2.out.cells
 clear hap hcy HC HE HR HV HC1 HE1 HR1 HV1 HO1 HB1 HK HBX
 go_wp2_with (at_make; refine wpList_make_full _ rfl _ _ 41 rfl y.heap.size 5 i0 (.int .u8 0) 1 Tryz.underlying41 hi hz0 hz1 .i64 .i64 vn vn vn rfl rfl rfl rfl (by rw [hz2]; omega) (by unfold maxLen; omega) Lr ?_; refine Hid.out ?_)
 apply zaa
 intro w3 hown3 hg3
 have hb3 : Below y.heap.size y w3 := Br.grown hg3 Lr (fun k hk => by cases hk)
 obtain ⟨g, hg⟩ : ∃ g, y.heap.size = g := ⟨_, rfl⟩
 obtain ⟨cur, hcur, hcs⟩ : ∃ cur : List Value, w3.heap[y.heap.size]? = some (.cells cur.toArray 5 (0, 0)) ∧ cur.length = vn := by
  rcases hown3.2 with ⟨h, _⟩ | ⟨g, c, cur, h, _, hh, _, _, hs, _⟩
  ·cases h
  ·cases h
   exact ⟨cur.toList, by simpa using hh, by simpa using hs⟩
 have HGS : Hid (s + 3 ≤ g) := zaa (by
  have h1 := HB2.out.size
  have h2 := zah HC2.out
  omega)
 have HKB : Hid (∀ i, (Value.slice a1 K k1).ownBlock = some i → s + 3 ≤ i ∧ i < g) := zaa fun i e => by
  have := HO2.out
  unfold OwnB at this
  have h2 := this.lt i e
  omega
 rw [hg] at hcur ⊢
 have HC3 : Hid (C5 w3 (s + 2) (.slice a1 K k1) (.int .i64 kd) (.slice vo vn vc) (.int .i64 pg) (.int .i64 ct)) := zaa (zaf HC2.out hb3)
 have HE3 : Hid (E6 w3 s (.slice ho hn hc) (.slice ko kn kc) (.int .i64 kd) (.slice vo vn vc) (.int .i64 pg) (.int .i64 ct)) := zaa (zaf HE2.out hb3)
 have HR3 : Hid (C5 w3 (s + 1) (.slice none 0 0) (.int .i64 0) (.slice none 0 0) (.int .i64 0) (.int .i64 0)) := zaa (zaf HR2.out hb3)
 have hv3 : Sl w3 vo vn vc val := HV2.out.on Lr hb3
 have ho3 : OwnB w3 (s + 3) (.slice a1 K k1) (h ++ key) := HO2.out.on Lr hb3
 obtain ⟨t, ht⟩ : ∃ t, w3.setCell ⟨s + 2, 2, none⟩ (.slice (some ⟨g, 0, none⟩) vn vn) = t := ⟨_, rfl⟩
 have hct : Cf (· = s + 2) w3 t := by rw [← ht]; exact Cf.set _ _ _ _
 have HC4 : Hid (C5 t (s + 2) (.slice a1 K k1) (.int .i64 kd) (.slice (some ⟨g, 0, none⟩) vn vn) (.int .i64 pg) (.int .i64 ct)) := zaa (by rw [← ht]; exact (HC3.out.set _).2.2.1)
 have HE4 : Hid (E6 t s (.slice ho hn hc) (.slice ko kn kc) (.int .i64 kd) (.slice vo vn vc) (.int .i64 pg) (.int .i64 ct)) := zaa (HE3.out.cf hct (by omega))
 have HR4 : Hid (C5 t (s + 1) (.slice none 0 0) (.int .i64 0) (.slice none 0 0) (.int .i64 0) (.int .i64 0)) := zaa (HR3.out.cf hct (by omega))
 have hv4 : Sl t vo vn vc val := hv3.cf hct (hv3.apart5 HC3.out)
 have HO4 : Hid (OwnB t (s + 3) (.slice a1 K k1) (h ++ key)) := zaa (ho3.cf hct (ho3.apart5 HC3.out))
 have HB4 : Hid (Below w.heap.size w t) := zaa ((zab HB2.out Lr hb3).trans (hct.below (zN HB2.out.size hb3.size) (by intro i hi e; omega)))
 have HCU : Hid (t.heap[g]? = some (.cells cur.toArray 5 (0, 0))) := zaa ((hct.block g (zah hcur) (by have := HGS.out; omega)).trans hcur)
 have HP : Hid (0 < (By val).length → some (⟨g, 0, none⟩ : Addr) = some ⟨g, 0, none⟩ ∧ ∃ ad, vo = some ad ∧ ∀ j v, (By val)[j]? = some v → t.cell? (ad.add j) = some v) := zaa (by
  intro hp
  rw [zax, hv4.hlen] at hp
  rcases hv4.hat with h0 | ⟨b, off, rfl, hbb, hc⟩
  ·omega
  ·refine ⟨rfl, _, rfl, fun j v hj => ?_⟩
   obtain ⟨h1, rfl⟩ := getElem?_By val j v hj
   rw [Addr.add_lit]
   exact hc j (by rw [← hv4.hlen]; exact h1))
 have HVL := zaa hv4.hlen
 obtain ⟨e0, e1, e2, e3, e4⟩ := HC3.out.cells
 obtain ⟨h0, h1, h2, h3, h4⟩ := HC3.out.free
 clear c0 c1 c2 c3 c4 c5 d0 d1 d2 d3 d4 f0 f1 f2 f3 f4 hy
 obtain ⟨c0, c1, c2, c3, c4, c5⟩ := HE4.out.cells
 obtain ⟨d0, d1, d2, d3, d4⟩ := HC4.out.cells
 have hbt : Below t.heap.size t t := Br
 have hgt : g < t.heap.size := zah HCU.out
 clear hown3 hg3 hb3 hcur hv3 ho3 hct hv4 HC2 HE2 HR2 HV2 HO2 HB2 HC3 HE3 HR3
 go_wp2_with (refine wpList_copy_splice rfl _ _ 41 41 rfl 5 Tryz.underlying41 hsz _ _ vn vn vn vc rfl rfl g 0 cur 5 HCU.out (By val) (by rw [zax, HVL.out]; exact (Nat.min_self vn).symm) HP.out (by rw [zax, HVL.out]; omega) (zbt val) g t Br Lr ?_; refine Hid.out ?_)
 apply zaa
 intro w5 hh5 hb5
 have HBK : Hid (Bk w5 g val) := by
  have h' := hh5.out
  rw [show splice cur 0 (By val) = By val from by simp [splice, zax, HVL.out, hcs]] at h'
  exact zaa h'
 have hgs := HGS.out
 have HC5 : Hid (C5 w5 (s + 2) (.slice a1 K k1) (.int .i64 kd) (.slice (some ⟨g, 0, none⟩) vn vn) (.int .i64 pg) (.int .i64 ct)) := zaa ((hb5.block _ (by omega)).trans HC4.out)
 have HR5 : Hid (C5 w5 (s + 1) (.slice none 0 0) (.int .i64 0) (.slice none 0 0) (.int .i64 0) (.int .i64 0)) := zaa ((hb5.block _ (by omega)).trans HR4.out)
 have HB5 : Hid (Below w.heap.size w w5) := zaa (HB4.out.trans (hb5.mono (by have := HSW.out; omega)))
 have HO5 : Hid (OwnB w5 (s + 3) (.slice a1 K k1) (h ++ key)) := zaa (HO4.out.same fun i e => hb5.block i (HKB.out i e).2)
 clear c0 c1 c2 c3 c4 c5 d0 d1 d2 d3 d4 e0 e1 e2 e3 e4 h0 h1 h2 h3 h4 ht HC4 HR4 HE4 HB4 HO4 HCU HP hh5 hb5
 obtain ⟨d0, d1, d2, d3, d4⟩ := HC5.out.cells
 obtain ⟨b0, b1, b2, b3, b4⟩ := HR5.out.cells
 obtain ⟨f0, f1, f2, f3, f4⟩ := HR5.out.free
 go_wp2
 refine bodyPost_ret (results_cell_row rfl _ _ (s + 1) 43 #[.slice a1 K k1, .int .i64 kd, .slice (some ⟨g, 0, none⟩) vn vn, .int .i64 pg, .int .i64 ct] (0, 0) _ (by rfl) (HR5.out.put _ _ _ _ _) Tryz.underlying43 rfl zbh) rfl ?_
 have hf := zbv w5 (s + 1) (.slice a1 K k1) (.int .i64 kd) (.slice (some ⟨g, 0, none⟩) vn vn) (.int .i64 pg) (.int .i64 ct)
 have hws := HSW.out
 exact ⟨a1, k1, g, rfl, zaa ⟨(HO5.out.low (by omega)).cf hf (HO5.out.apart5 HR5.out), HBK.out.cf hf (HBK.out.apart5 HR5.out), by omega, fun e => by have := HKB.out g e; omega⟩, zaa (HB5.out.trans (hf.below HB5.out.size (by intro i hi e; omega)))⟩
theorem riseQ_any (ao bo : Option Addr) (n m c d : Nat) (la lb : List Int) (w : World) (ha : Sl w ao n c la) (hb : Sl w bo m d lb) :
  Calls Tryz.prog 156 #[.slice ao n c, .slice bo m d] w fun e w' => e = .returned (.bool (decide (kl la lb))) ∧ w' = w := by
 have hr := zdd ao bo n m c d la lb w ha hb
 have hq : decide (kl la lb) = decide (ordL la lb < 0) := by
  have := zcg la lb
  refine decide_eq_decide.2 ?_
  unfold kl
  omega
 rw [hq]
 clear ha hb hq
 generalize ordL la lb = x at *
 go_enter Tryz.func156, Tryz.ntmps156
 go_wp2_with (go_at_call 183; refine zae hr ?_)
 go_ret
 exact ⟨rfl, rfl⟩
end Go.Proofs.YtofafbmpbkjhnaaGreatDoor
