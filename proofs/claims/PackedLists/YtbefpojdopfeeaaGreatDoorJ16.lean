/- packed: slices.Insert, slices.Replace and slices.Delete of rows of entries that have no room to spare. -/
import Derived.Test.YtbefpojdopfeeaaGreatDoorJ14
import Derived.Test.YtbefpojdopfeeaaGreatDoorJ15
import Derived.Deep.DeepCutAuto
import Derived.Deep.CutRange
import Derived.Deep.RegionHeld
namespace Go.Proofs.YtbefpojdopfeeaaGreatDoor
open Go.RowKit

set_option maxRecDepth 100000 in
theorem copyE_run (w : World) (ty : TypeId) (g o dl dc : Nat) (a : Addr) (sl sc : Nat) (cs : List Value) (hn : cs.length = Nat.min sl dl * 6)
    (hsrc : ∀ j v, cs[j]? = some v → w.cell? (a.add j) = some v) (hc : ∀ j, j < cs.length → (w.cell? ⟨g, o + j, none⟩).isSome = true) (hf : ∀ j, j < cs.length → w.frozen? ⟨g, o + j, none⟩ = false) (h1 : ∀ v ∈ cs, v.oneCell' = true) :
    (Builtin.copy_ #[75, 75] ty #[.slice (some ⟨g, o, none⟩) dl dc, .slice (some a) sl sc]).run Tryz.prog w = .ok (goInt (Nat.min sl dl : Nat)) (w.setCells g o cs) := by
  obtain ⟨ic, hic, hz0, hz1, hz2⟩ := info_parts infoE
  have hl := run_loadCells_list (P := Tryz.prog) w a cs hsrc
  have hst := run_storeCells_cells (P := Tryz.prog) g o cs 0 w (by simpa using hc) (by simpa using hf) h1
  simp [Builtin.copy_, run_underlying Tryz.underlying75, Builtin.lenOf, Builtin.firstCells, sizeOf, typeInfo, hic, hz1, ← hn, hl, hst]
/-- A row of entries, as many as it has room for. -/
structure OwE (w : World) (g n : Nat) (xs : List Value) : Prop where
  row : RowEq w g n
  len : xs.length = n * 6
  at_ : ∀ j u, xs[j]? = some u → w.cell? ⟨g, j, none⟩ = some u
  one : ∀ u ∈ xs, u.oneCell' = true
set_option maxRecDepth 100000 in
theorem below_sets (B g o : Nat) (vs : List Value) (w : World) (hg : B ≤ g) (hB : B ≤ w.heap.size) : Below B w (w.setCells g o vs) := by
  have h := sets_grown g vs o w
  exact ⟨h.os, h.tape, h.output, h.size, fun k hk => h.block k (by omega) (by intro e; injection e with e; omega)⟩
set_option maxRecDepth 100000 in
set_option maxHeartbeats 4000000 in
theorem insE_mid (u : World) (g sn i : Nat) (xs ys : List Value) (h : OwE u g sn xs) (hi : i < sn) (hsn : sn ≤ 65535) (b bc : Nat) (hy : ys.length = 6) (hyo : ∀ v ∈ ys, v.oneCell' = true) (hyc : ∀ j v, ys[j]? = some v → u.cell? ⟨b, j, none⟩ = some v) :
    Calls Tryz.prog 125 #[.slice (some ⟨g, 0, none⟩) sn sn, .int .i64 (i : Int), .slice (some ⟨b, 0, none⟩) 1 bc] u fun e w' => ∃ g' c', e = .returned (.slice (some ⟨g', 0, none⟩) (sn + 1) c') ∧ Hid ((u.heap.size ≤ g' ∧ sn + 1 ≤ c') ∧ ∀ j v, (xs.take (i * 6) ++ ys ++ xs.drop (i * 6))[j]? = some v → w'.cell? ⟨g', j, none⟩ = some v) ∧ Hid (Below u.heap.size u w') := by
  obtain ⟨ic, hic, hz0, hz1, hz2⟩ := info_parts infoE
  have hge := grownCap_ge u (sn + 1) sn 78
  have hle := grownCap_le_maxLen u (sn + 1) sn 78 (by unfold maxLen; omega)
  generalize hcg : grownCap u (sn + 1) sn 78 = c' at *
  obtain ⟨cur, hcur⟩ : ∃ cur : Array Value, ((xs.take (i * 6)).toArray ++ Builtin.zeroCells (Value.agg #[.slice none 0 0, .slice none 0 0, .int .i64 0, .slice none 0 0, .int .i64 0, .int .i64 0]).cells (sn + 1 - i) ++ Builtin.zeroCells (Value.agg #[.slice none 0 0, .slice none 0 0, .int .i64 0, .slice none 0 0, .int .i64 0, .int .i64 0]).cells (c' - (sn + 1))) = cur := ⟨_, rfl⟩
  obtain ⟨w1, hw1⟩ : ∃ w1, u.drew.alloc (.cells cur 78) = w1 := ⟨_, rfl⟩
  have hr : ∀ ty, (Builtin.append_ #[75, 3] ty #[.slice (some ⟨g, 0, none⟩) i sn, .int .i64 ((sn : Int) + 1 - (i : Int))]).run Tryz.prog u = .ok (.slice (some ⟨u.heap.size, 0, none⟩) (sn + 1) c') w1 := fun ty => by
    have h1 := Lib.run_append_grow_zeros (P := Tryz.prog) u 75 3 ty 78 ic _ .i64 .i64 Tryz.underlying75 Tryz.underlying3 hic hz0 (some ⟨g, 0, none⟩) i sn (xs.take (i * 6))
      (run_firstCells_some (P := Tryz.prog) u.drew ic.size i ⟨g, 0, none⟩ i sn (xs.take (i * 6)) (by rw [hz1, List.length_take, h.len]; omega) (fun j v hj => by
        rw [Addr.add_lit, Nat.zero_add]
        exact h.at_ j v (by rw [List.getElem?_take] at hj; split at hj <;> first | exact hj | cases hj))) (sn + 1 - i) (by omega) (by omega) (by omega) (by omega) (by rw [hz2]; omega) (by rw [show i + (sn + 1 - i) = sn + 1 by omega]; exact growslice_fits (by omega) (by rw [hz2]; omega))
    rw [show i + (sn + 1 - i) = sn + 1 by omega, hcg, hcur, hw1] at h1
    rw [show ((sn : Int) + 1 - (i : Int)) = ((sn + 1 - i : Nat) : Int) by omega]
    exact h1
  obtain ⟨g', hg'⟩ : ∃ g', u.heap.size = g' := ⟨_, rfl⟩
  rw [hg'] at hr
  have HR1 : Hid (RowEq w1 g' c' ∧ Below u.heap.size u w1 ∧ ∀ j v, (xs.take (i * 6))[j]? = some v → w1.cell? ⟨g', j, none⟩ = some v) := hidden (by
    have hrow : w1.heap[g']? = some (.cells cur 78 (0, 0)) := by rw [← hw1, ← hg']; exact heap_alloc_new u.drew _
    refine ⟨⟨_, hrow, ?_⟩, by rw [← hw1]; exact bl_al (Below.refl _ _).drew (Nat.le_refl _) _, fun j v hj => ?_⟩
    · rw [← hcur, Array.size_append, Array.size_append, size_zeroCells, size_zeroCells]
      simp only [List.size_toArray, List.length_take, h.len]
      show min (i * 6) (sn * 6) + (sn + 1 - i) * 6 + (c' - (sn + 1)) * 6 = 6 * c'
      omega
    · rw [cell_of_row _ _ _ _ _ _ hrow, ← hcur]
      rw [Array.append_assoc, Array.getElem?_append_left (by simpa using (List.getElem?_eq_some_iff.1 hj).1)]
      simpa using hj)
  have hiI : (i : Int) < (sn : Int) := by omega
  have hsI : (sn : Int) ≤ 65535 := by omega
  have hcI : ((sn : Int) + 1) ≤ (c' : Int) := by omega
  have HOW := hidden h
  have HN : Hid (i ≤ sn ∧ ¬ sn = i ∧ (0 ≤ (i : Int) + 1 ∧ i ≤ sn) ∧ ¬ c' = i + 1) := hidden ⟨by omega, by omega, ⟨by omega, by omega⟩, by omega⟩
  have HG := hidden hg'
  obtain ⟨w2, hw2⟩ : ∃ w2, w1.setCells g' (i * 6) ys = w2 := ⟨_, rfl⟩
  obtain ⟨w3, hw3⟩ : ∃ w3, w2.drew.setCells g' ((i + 1) * 6) (xs.drop (i * 6)) = w3 := ⟨_, rfl⟩
  have hb2 : Below u.heap.size u w2 := by
    rw [← hw2]
    exact HR1.out.2.1.trans (below_sets _ _ _ _ _ (by omega) HR1.out.2.1.size)
  have hrow2 : RowEq w2 g' c' := by rw [← hw2]; exact RowEq.sets _ _ _ HR1.out.1
  have k1 : ∀ ty, (Builtin.copy_ #[75, 75] ty #[.slice (some ⟨g', i * 6, none⟩) (sn + 1 - i) (c' - i), .slice (some ⟨b, 0, none⟩) 1 bc]).run Tryz.prog w1 = .ok (goInt 1) w2 := fun ty => by
    have e : Nat.min 1 (sn + 1 - i) = 1 := Nat.min_eq_left (by omega)
    have := copyE_run w1 ty g' (i * 6) (sn + 1 - i) (c' - i) ⟨b, 0, none⟩ 1 bc ys (by rw [e, hy]) (fun j v hj => by
      rw [Addr.add_lit, Nat.zero_add]
      have h1 := hyc j v hj
      exact (HR1.out.2.1.cell (p := ⟨b, j, none⟩) (World.block_lt_of_cell? u ⟨b, j, none⟩ (by rw [h1]))).trans h1) (fun j hj => HR1.out.1.cell _ (by omega)) (fun j _ => HR1.out.1.free _) hyo
    rw [e, hw2] at this
    exact this
  have k2 : ∀ ty, (Builtin.copy_ #[75, 75] ty #[.slice (some ⟨g', (i + 1) * 6, none⟩) (sn - i) (c' - (i + 1)), .slice (some ⟨g, i * 6, none⟩) (sn - i) (sn - i)]).run Tryz.prog w2.drew = .ok (goInt (sn - i : Nat)) w3 := fun ty => by
    have e : Nat.min (sn - i) (sn - i) = sn - i := Nat.min_eq_left (by omega)
    have := copyE_run w2.drew ty g' ((i + 1) * 6) (sn - i) (c' - (i + 1)) ⟨g, i * 6, none⟩ (sn - i) (sn - i) (xs.drop (i * 6)) (by rw [e, List.length_drop, h.len]; omega) (fun j v hj => by
      rw [Addr.add_lit]
      have h1 := h.at_ (i * 6 + j) v (by rw [List.getElem?_drop] at hj; exact hj)
      exact (hb2.drew.cell (p := ⟨g, i * 6 + j, none⟩) (World.block_lt_of_cell? u ⟨g, i * 6 + j, none⟩ (by rw [h1]))).trans h1) (fun j hj => (show RowEq w2.drew g' c' from hrow2).cell _ (by rw [List.length_drop, h.len] at hj; omega)) (fun j _ => (show RowEq w2.drew g' c' from hrow2).free _) (fun v hv => h.one v (List.mem_of_mem_drop hv))
    rw [e, hw3] at this
    exact this
  have HFIN : Hid ((∀ j v, (xs.take (i * 6) ++ ys ++ xs.drop (i * 6))[j]? = some v → w3.cell? ⟨g', j, none⟩ = some v) ∧ Below u.heap.size u w3) := hidden (by
    have hl1 : (xs.take (i * 6)).length = i * 6 := by rw [List.length_take, h.len]; omega
    refine ⟨fun j v hj => ?_, ?_⟩
    · rw [← hw3]
      by_cases h1 : j < i * 6
      · rw [List.append_assoc, List.getElem?_append_left (by omega)] at hj
        rw [World.cell?_setCells_out g' _ _ _ _ (fun _ _ => .inl (by simp only; omega))]
        show w2.cell? _ = _
        rw [← hw2, World.cell?_setCells_out g' _ _ _ _ (fun _ _ => .inl (by simp only; omega))]
        exact HR1.out.2.2 j v hj
      · by_cases h2 : j < (i + 1) * 6
        · rw [List.getElem?_append_left (by rw [List.length_append]; omega), List.getElem?_append_right (by omega), hl1] at hj
          rw [World.cell?_setCells_out g' _ _ _ _ (fun _ _ => .inl (by simp only; omega))]
          show w2.cell? _ = _
          rw [← hw2]
          have h3 := World.cell?_setCells_in g' ys (i * 6) w1 (fun q hq => HR1.out.1.cell _ (by omega)) (j - i * 6) (by omega)
          rw [show i * 6 + (j - i * 6) = j by omega] at h3
          rw [h3, ← hj]
          exact (List.getElem?_eq_getElem _).symm
        · rw [List.getElem?_append_right (by rw [List.length_append]; omega)] at hj
          have hjl := (List.getElem?_eq_some_iff.1 hj).1
          rw [List.length_append, hl1, hy, List.length_drop, h.len] at hjl
          have h3 := World.cell?_setCells_in g' (xs.drop (i * 6)) ((i + 1) * 6) w2.drew (fun q hq => (show RowEq w2.drew g' c' from hrow2).cell _ (by rw [List.length_drop, h.len] at hq; omega)) (j - (i + 1) * 6) (by rw [List.length_drop, h.len]; omega)
          rw [show (i + 1) * 6 + (j - (i + 1) * 6) = j by omega] at h3
          rw [h3, ← hj, show j - ((xs.take (i * 6)) ++ ys).length = j - (i + 1) * 6 by rw [List.length_append, hl1, hy]; omega]
          exact (List.getElem?_eq_getElem _).symm
    · rw [← hw3]
      exact hb2.drew.trans (below_sets _ _ _ _ _ (by omega) hb2.drew.size))
  clear hcg hw1 hle hcur hw2 hw3 hb2 hrow2
  go_enter Tryz.func125, Tryz.ntmps125
  go_upto_region 10 with (at_builtin; refine append_wp rfl _ _ _ _ rfl _ _ rfl rfl (hr _) ?_)
  go_wp2_with fail
  refine wp_region_held_drew (S := fun _ => True ∧ True) (by kernel_rfl) ⟨trivial, trivial⟩ (fun hHeld => ?_)
  refine wpAnyH_take (i := 0) (v := ?_) rfl (by kernel_rfl) (by kernel_rfl) (by kernel_rfl) (fun _ _ _ h => h) (Or.inl ⟨by rfl, ?_⟩) (by assumption) ?_
  rotate_left
  · (intro w hSw; obtain ⟨_, _⟩ := hSw; go_simp; try (with_reducible rfl))
  try simp only [Act.put, List.getElem_toArray, List.getElem_cons_zero, List.setIfInBounds_toArray, List.set_cons_zero, List.set_cons_succ]
  refine wpAnyH_take (i := 1) (v := ?_) rfl (by kernel_rfl) (by kernel_rfl) (by kernel_rfl) (fun _ _ _ h => h) (Or.inl ⟨by rfl, ?_⟩) (by assumption) ?_
  rotate_left
  · (intro w hSw; obtain ⟨_, _⟩ := hSw; go_simp; try (with_reducible rfl))
  try simp only [Act.put, List.getElem_toArray, List.getElem_cons_succ, List.getElem_cons_zero, List.setIfInBounds_toArray, List.set_cons_zero, List.set_cons_succ]
  refine wpAnyH_take (i := 2) (v := ?_) rfl (by kernel_rfl) (by kernel_rfl) (by kernel_rfl) (fun _ _ _ h => h) (Or.inl ⟨by rfl, ?_⟩) (by assumption) ?_
  rotate_left
  · (intro w hSw; obtain ⟨_, _⟩ := hSw; go_simp; try (with_reducible rfl))
  try simp only [Act.put, List.getElem_toArray, List.getElem_cons_succ, List.getElem_cons_zero, List.setIfInBounds_toArray, List.set_cons_zero, List.set_cons_succ]
  refine wpAnyH_take (i := 3) (v := .int .i64 ((i + 1 : Nat) : Int)) rfl (by kernel_rfl) (by kernel_rfl) (by kernel_rfl) (fun _ _ _ h => h) (Or.inl ⟨by rfl, ?_⟩) (by assumption) ?_
  · intro w hSw
    go_simp
    try (rw [show IntKind.i64.wrap ((i : Int) + 1) = (i : Int) + 1 by rw [IntKind.wrap_i64]; omega])
  try simp only [Act.put, List.getElem_toArray, List.getElem_cons_succ, List.getElem_cons_zero, List.setIfInBounds_toArray, List.set_cons_zero, List.set_cons_succ]
  refine wpAnyH_take (i := 4) (v := ?_) rfl (by kernel_rfl) (by kernel_rfl) (by kernel_rfl) (fun _ _ _ h => h) (Or.inl ⟨by rfl, ?_⟩) (by assumption) ?_
  rotate_left
  · (intro w hSw; obtain ⟨_, _⟩ := hSw; go_simp; try (rw [if_pos HN.out.2.2.1, if_neg HN.out.2.2.2]); try (with_reducible rfl))
  try simp only [Act.put, List.getElem_toArray, List.getElem_cons_succ, List.getElem_cons_zero, List.setIfInBounds_toArray, List.set_cons_zero, List.set_cons_succ]
  refine wpAnyH_take (i := 5) (v := ?_) rfl (by kernel_rfl) (by kernel_rfl) (by kernel_rfl) (fun _ _ _ h => h) (Or.inl ⟨by rfl, ?_⟩) (by assumption) ?_
  rotate_left
  · (intro w hSw; obtain ⟨_, _⟩ := hSw; go_simp; try (with_reducible rfl))
  try simp only [Act.put, List.getElem_toArray, List.getElem_cons_succ, List.getElem_cons_zero, List.setIfInBounds_toArray, List.set_cons_zero, List.set_cons_succ]
  refine wpAnyH_take (i := 6) (v := ?_) rfl (by kernel_rfl) (by kernel_rfl) (by kernel_rfl) (fun _ _ _ h => h) (Or.inl ⟨by rfl, ?_⟩) (by assumption) ?_
  rotate_left
  · (intro w hSw; obtain ⟨_, _⟩ := hSw; go_simp; try (with_reducible rfl))
  try simp only [Act.put, List.getElem_toArray, List.getElem_cons_succ, List.getElem_cons_zero, List.setIfInBounds_toArray, List.set_cons_zero, List.set_cons_succ]
  refine wpAnyH_take (i := 7) (v := ?_) rfl (by kernel_rfl) (by kernel_rfl) (by kernel_rfl) (fun _ _ _ h => h) (Or.inl ⟨by rfl, ?_⟩) (by assumption) ?_
  rotate_left
  · (intro w hSw; obtain ⟨_, _⟩ := hSw; go_simp; try (rw [if_pos HN.out.1, if_neg HN.out.2.1]); try (with_reducible rfl))
  try simp only [Act.put, List.getElem_toArray, List.getElem_cons_succ, List.getElem_cons_zero, List.setIfInBounds_toArray, List.set_cons_zero, List.set_cons_succ]
  refine wpAnyH_ready (rs := [8]) (by kernel_rfl) (by simp) ?_
  refine AllReadyH.cons rfl (fun K hK => ?_) AllReadyH.nil
  refine copy_step rfl _ _ _ _ rfl _ _ (by rfl) (by rfl) (k2 _) ?_
  refine hK.out _ _ ⟨trivial, trivial⟩ (fun hHeld => ?_)
  clear hK K
  refine wpAnyH_done (by kernel_rfl) ?_ _
  clear hHeld k1 k2 hr
  go_wp2
  go_ret
  exact ⟨g', c', rfl, hidden ⟨⟨by have := HG.out; omega, by omega⟩, HFIN.out.1⟩, hidden HFIN.out.2⟩
end Go.Proofs.YtbefpojdopfeeaaGreatDoor

/- packed: slices.Replace and slices.Delete of rows of entries that have no room to spare. -/

namespace Go.Proofs.YtbefpojdopfeeaaGreatDoor
open Go.RowKit

set_option maxRecDepth 100000 in
theorem Cf.sets (g o : Nat) (vs : List Value) (w : World) : Cf (· = g) w (w.setCells g o vs) := by
  have h := sets_grown g vs o w
  exact ⟨h.os, h.tape, h.output, h.size, fun k hk hg => h.block k hk (by intro e; injection e with e; exact hg e)⟩
set_option maxRecDepth 100000 in
theorem OwE.sets {w : World} {g n : Nat} {xs : List Value} (h : OwE w g n xs) (o : Nat) (vs : List Value) (ho : o + vs.length ≤ n * 6) (h1 : ∀ v ∈ vs, v.oneCell' = true) : OwE (w.setCells g o vs) g n (xs.take o ++ vs ++ xs.drop (o + vs.length)) := by
  have hl := h.len
  have hl1 : (xs.take o).length = o := by rw [List.length_take]; omega
  refine ⟨RowEq.sets _ _ _ h.row, by simp; omega, fun j u hj => ?_, fun u hu => ?_⟩
  · by_cases h2 : j < o
    · rw [World.cell?_setCells_out g _ _ _ _ (fun _ _ => .inl (by simp only; omega))]
      rw [List.append_assoc, List.getElem?_append_left (by omega), List.getElem?_take] at hj
      rw [if_pos h2] at hj
      exact h.at_ j u hj
    · by_cases h3 : j < o + vs.length
      · rw [List.getElem?_append_left (by rw [List.length_append]; omega), List.getElem?_append_right (by omega), hl1] at hj
        have h4 := World.cell?_setCells_in g vs o w (fun q hq => h.row.cell _ (by omega)) (j - o) (by omega)
        rw [show o + (j - o) = j by omega] at h4
        rw [h4, ← hj]
        exact (List.getElem?_eq_getElem _).symm
      · rw [World.cell?_setCells_out g _ _ _ _ (fun _ _ => .inr (by simp only; omega))]
        rw [List.getElem?_append_right (by rw [List.length_append]; omega), List.length_append, hl1, List.getElem?_drop] at hj
        rw [show o + vs.length + (j - (o + vs.length)) = j by omega] at hj
        exact h.at_ j u hj
  · rcases List.mem_append.1 hu with h2 | h2
    · rcases List.mem_append.1 h2 with h3 | h3
      · exact h.one u (List.mem_of_mem_take h3)
      · exact h1 u h3
    · exact h.one u (List.mem_of_mem_drop h2)
set_option maxRecDepth 100000 in
theorem OwE.drew {w : World} {g n : Nat} {xs : List Value} (h : OwE w g n xs) : OwE w.drew g n xs := ⟨h.row, h.len, h.at_, h.one⟩
set_option maxRecDepth 100000 in
set_option maxHeartbeats 4000000 in
theorem repE_mid (u : World) (g sn i j r : Nat) (xs ys : List Value) (h : OwE u g sn xs) (hij : i + 1 = j) (hjr : j + r = sn) (hr0 : 0 < r) (hsn : sn ≤ 65535) (b bc : Nat) (hy : ys.length = 6) (hyo : ∀ v ∈ ys, v.oneCell' = true) (hyc : ∀ j v, ys[j]? = some v → u.cell? ⟨b, j, none⟩ = some v) :
    Calls Tryz.prog 89 #[.slice (some ⟨g, 0, none⟩) sn sn, .int .i64 (i : Int), .int .i64 (j : Int), .slice (some ⟨b, 0, none⟩) 1 bc] u fun e w' => e = .returned (.slice (some ⟨g, 0, none⟩) sn sn) ∧ Hid (OwE w' g sn (xs.take (i * 6) ++ ys ++ xs.drop (j * 6))) ∧ Hid (Cf (· = g) u w') := by
  have h1 : (i : Int) < (j : Int) := by omega
  have h2 : (j : Int) < (sn : Int) := by omega
  have h3 : (sn : Int) ≤ 65535 := by omega
  have h4 : sn - j = r := by omega
  have h5 : i ≤ sn := by omega
  have h6 : j ≤ sn := by omega
  have h7 : i ≤ j := by omega
  have h8 : ¬ sn = i := by omega
  have h9 : ¬ sn = j := by omega
  have h10 : (j : Int) + (r : Int) = (sn : Int) := by omega
  have h13 : (i : Int) + 1 = (j : Int) := by omega
  have h11 : ¬ (i : Int) = (j : Int) := by omega
  have h12 : ¬ (j : Int) = (sn : Int) := by omega
  obtain ⟨w0, hw0⟩ : ∃ w0, u.drew = w0 := ⟨_, rfl⟩
  have ho0 : OwE w0 g sn xs := by rw [← hw0]; exact h.drew
  obtain ⟨w1, hw1⟩ : ∃ w1, w0.setCells g (i * 6) ys = w1 := ⟨_, rfl⟩
  have hl := h.len
  have ho1 : OwE w1 g sn (xs.take (i * 6) ++ ys ++ xs.drop (j * 6)) := by
    have := ho0.sets (i * 6) ys (by omega) hyo
    rw [hw1, show i * 6 + ys.length = j * 6 by omega] at this
    exact this
  have hd1 : (xs.take (i * 6) ++ ys ++ xs.drop (j * 6)).drop (j * 6) = xs.drop (j * 6) := by
    rw [List.drop_append_of_le_length (by simp; omega), List.drop_of_length_le (by simp; omega), List.nil_append]
  obtain ⟨w2, hw2⟩ : ∃ w2, w1.drew.setCells g (j * 6) (xs.drop (j * 6)) = w2 := ⟨_, rfl⟩
  have k1 : (Builtin.copy_ #[75, 75] 3 #[.slice (some ⟨g, i * 6, none⟩) (sn - i) (sn - i), .slice (some ⟨b, 0, none⟩) 1 bc]).run Tryz.prog w0 = .ok (goInt 1) w1 := by
    have e : Nat.min 1 (sn - i) = 1 := Nat.min_eq_left (by omega)
    have := copyE_run w0 3 g (i * 6) (sn - i) (sn - i) ⟨b, 0, none⟩ 1 bc ys (by rw [e, hy]) (fun q v hq => by
      rw [Addr.add_lit, Nat.zero_add, ← hw0]
      exact hyc q v hq) (fun q hq => ho0.row.cell _ (by omega)) (fun q _ => ho0.row.free _) hyo
    rw [e, hw1] at this
    exact this
  have k2 : (Builtin.copy_ #[75, 75] 3 #[.slice (some ⟨g, j * 6, none⟩) r r, .slice (some ⟨g, j * 6, none⟩) r r]).run Tryz.prog w1.drew = .ok (goInt (r : Nat)) w2 := by
    have e : Nat.min r r = r := Nat.min_eq_left (Nat.le_refl _)
    have := copyE_run w1.drew 3 g (j * 6) r r ⟨g, j * 6, none⟩ r r (xs.drop (j * 6)) (by rw [e, List.length_drop]; omega) (fun q v hq => by
      rw [Addr.add_lit]
      exact ho1.at_ _ v (by rw [← hd1, List.getElem?_drop] at hq; exact hq)) (fun q hq => ho1.drew.row.cell _ (by rw [List.length_drop] at hq; omega)) (fun q _ => ho1.drew.row.free _) (fun v hv => h.one v (List.mem_of_mem_drop hv))
    rw [e, hw2] at this
    exact this
  have HE : Hid (OwE w2 g sn (xs.take (i * 6) ++ ys ++ xs.drop (j * 6)) ∧ Cf (· = g) u w2) := hidden (by
    constructor
    · have := ho1.drew.sets (j * 6) (xs.drop (j * 6)) (by rw [List.length_drop]; omega) (fun v hv => h.one v (List.mem_of_mem_drop hv))
      rw [hw2] at this
      have e : (xs.take (i * 6) ++ ys ++ xs.drop (j * 6)).take (j * 6) ++ xs.drop (j * 6) ++ (xs.take (i * 6) ++ ys ++ xs.drop (j * 6)).drop (j * 6 + (xs.drop (j * 6)).length) = xs.take (i * 6) ++ ys ++ xs.drop (j * 6) := by
        have hle : (xs.take (i * 6) ++ ys).length = j * 6 := by simp; omega
        have hz : (xs.take (i * 6) ++ ys ++ xs.drop (j * 6)).drop (j * 6 + (xs.drop (j * 6)).length) = [] := List.drop_of_length_le (by rw [List.length_append, hle]; exact Nat.le_refl _)
        rw [hz, List.append_nil, List.take_append_of_le_length (by omega), List.take_of_length_le (by omega)]
      rw [e] at this
      exact this
    · rw [← hw2]
      refine Cf.go ?_ (Cf.sets _ _ _ _)
      have hc : Cf (· = g) u w1 := by rw [← hw1, ← hw0]; exact Cf.go (Cf.of_below (Below.refl _ _).drew) (Cf.sets _ _ _ _)
      exact hc.go (Cf.of_below (Below.refl _ _).drew))
  have hcl : ∀ ty a cc, (Builtin.clear_ #[75] ty #[.slice a 0 cc]).run Tryz.prog w2 = .ok (.tuple #[]) w2 := fun ty a cc => clear_none w2 75 78 ty Tryz.underlying75 a cc
  clear h hy hyo hyc ho0 ho1 hd1 hw1 hw2 hl
  go_enter Tryz.func89, Tryz.ntmps89
  go_wp2_with fail
  go_region
  rw [hw0]
  clear hw0
  go_upto_region 18 with (at_builtin; refine copy_wp rfl _ _ _ _ rfl _ _ rfl rfl k1 ?_)
  go_wp2_with fail
  refine wp_region_held_drew (S := fun _ => True ∧ True) (by kernel_rfl) ⟨trivial, trivial⟩ (fun hHeld => ?_)
  refine wpAnyH_take (i := 0) (v := ?_) rfl (by kernel_rfl) (by kernel_rfl) (by kernel_rfl) (fun _ _ _ h => h) (Or.inl ⟨by rfl, ?_⟩) (by assumption) ?_
  rotate_left
  · (intro w hSw; obtain ⟨_, _⟩ := hSw; go_simp; try (with_reducible rfl))
  try simp only [Act.put, List.getElem_toArray, List.getElem_cons_zero, List.setIfInBounds_toArray, List.set_cons_zero, List.set_cons_succ]
  refine wpAnyH_take (i := 1) (v := ?_) rfl (by kernel_rfl) (by kernel_rfl) (by kernel_rfl) (fun _ _ _ h => h) (Or.inl ⟨by rfl, ?_⟩) (by assumption) ?_
  rotate_left
  · (intro w hSw; obtain ⟨_, _⟩ := hSw; go_simp; try (with_reducible rfl))
  try simp only [Act.put, List.getElem_toArray, List.getElem_cons_succ, List.getElem_cons_zero, List.setIfInBounds_toArray, List.set_cons_zero, List.set_cons_succ]
  refine wpAnyH_take (i := 2) (v := ?_) rfl (by kernel_rfl) (by kernel_rfl) (by kernel_rfl) (fun _ _ _ h => h) (Or.inl ⟨by rfl, ?_⟩) (by assumption) ?_
  rotate_left
  · (intro w hSw; obtain ⟨_, _⟩ := hSw; go_simp; try (with_reducible rfl))
  try simp only [Act.put, List.getElem_toArray, List.getElem_cons_succ, List.getElem_cons_zero, List.setIfInBounds_toArray, List.set_cons_zero, List.set_cons_succ]
  refine wpAnyH_take (i := 3) (v := ?_) rfl (by kernel_rfl) (by kernel_rfl) (by kernel_rfl) (fun _ _ _ h => h) (Or.inl ⟨by rfl, ?_⟩) (by assumption) ?_
  rotate_left
  · (intro w hSw; obtain ⟨_, _⟩ := hSw; go_simp; try (with_reducible rfl))
  try simp only [Act.put, List.getElem_toArray, List.getElem_cons_succ, List.getElem_cons_zero, List.setIfInBounds_toArray, List.set_cons_zero, List.set_cons_succ]
  refine wpAnyH_take (i := 4) (v := .int .i64 (j : Int)) rfl (by kernel_rfl) (by kernel_rfl) (by kernel_rfl) (fun _ _ _ h => h) (Or.inl ⟨by rfl, ?_⟩) (by assumption) ?_
  · intro w hSw
    go_simp
    try (rw [h13])
    try (rw [show IntKind.i64.wrap (j : Int) = (j : Int) by rw [IntKind.wrap_i64]; omega])
  try simp only [Act.put, List.getElem_toArray, List.getElem_cons_succ, List.getElem_cons_zero, List.setIfInBounds_toArray, List.set_cons_zero, List.set_cons_succ]
  refine wpAnyH_take (i := 5) (v := .slice (some ⟨g, j * 6, none⟩) r r) rfl (by kernel_rfl) (by kernel_rfl) (by kernel_rfl) (fun _ _ _ h => h) (Or.inl ⟨by rfl, ?_⟩) (by assumption) ?_
  · intro w hSw
    go_simp
  try simp only [Act.put, List.getElem_toArray, List.getElem_cons_succ, List.getElem_cons_zero, List.setIfInBounds_toArray, List.set_cons_zero, List.set_cons_succ]
  refine wpAnyH_take (i := 6) (v := ?_) rfl (by kernel_rfl) (by kernel_rfl) (by kernel_rfl) (fun _ _ _ h => h) (Or.inl ⟨by rfl, ?_⟩) (by assumption) ?_
  rotate_left
  · (intro w hSw; obtain ⟨_, _⟩ := hSw; go_simp; try (with_reducible rfl))
  try simp only [Act.put, List.getElem_toArray, List.getElem_cons_succ, List.getElem_cons_zero, List.setIfInBounds_toArray, List.set_cons_zero, List.set_cons_succ]
  refine wpAnyH_take (i := 7) (v := ?_) rfl (by kernel_rfl) (by kernel_rfl) (by kernel_rfl) (fun _ _ _ h => h) (Or.inl ⟨by rfl, ?_⟩) (by assumption) ?_
  rotate_left
  · (intro w hSw; obtain ⟨_, _⟩ := hSw; go_simp; try (with_reducible rfl))
  try simp only [Act.put, List.getElem_toArray, List.getElem_cons_succ, List.getElem_cons_zero, List.setIfInBounds_toArray, List.set_cons_zero, List.set_cons_succ]
  refine wpAnyH_take (i := 8) (v := .slice (some ⟨g, j * 6, none⟩) r r) rfl (by kernel_rfl) (by kernel_rfl) (by kernel_rfl) (fun _ _ _ h => h) (Or.inl ⟨by rfl, ?_⟩) (by assumption) ?_
  · intro w hSw
    go_simp
  try simp only [Act.put, List.getElem_toArray, List.getElem_cons_succ, List.getElem_cons_zero, List.setIfInBounds_toArray, List.set_cons_zero, List.set_cons_succ]
  refine wpAnyH_ready (rs := [9]) (by kernel_rfl) (by simp) ?_
  refine AllReadyH.cons rfl (fun K hK => ?_) AllReadyH.nil
  refine copy_step rfl _ _ _ _ rfl _ _ (by rfl) (by rfl) k2 ?_
  refine hK.out _ _ ⟨trivial, trivial⟩ (fun hHeld => ?_)
  clear hK K
  refine wpAnyH_done (by kernel_rfl) ?_ _
  clear hHeld k1 k2
  go_wp2_with (at_builtin; refine clear_wp rfl _ _ rfl _ rfl (hcl _ _ _) ?_)
  go_ret
  exact ⟨rfl, hidden HE.out.1, hidden HE.out.2⟩
end Go.Proofs.YtbefpojdopfeeaaGreatDoor
