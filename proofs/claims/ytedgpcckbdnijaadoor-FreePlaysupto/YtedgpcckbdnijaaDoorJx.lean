/- Marks in general: what a Back at any of them leaves; marks that are dropped. -/
import Derived.Test.YtedgpcckbdnijaaDoorUt
import Derived.Test.YtedgpcckbdnijaaDoorVi
namespace Go.Proofs.YtedgpcckbdnijaaDoor
open Go.RowKit Go.Maps Go.Shelf

/-- A mark that knows nothing. -/
def clr (q : Mq) : Mq := { q with B := fun _ => none }
/-- What a mark is in memory. -/
def nb (q : Mq) : Int × Nat := (q.n, q.b)
set_option maxRecDepth 100000 in
theorem appB_clr (K : Int → Option Int) (q : Mq) : appB K (clr q).B = K := rfl
/-- One mark is gone through. -/
def stB (s : (Int → Option Int) × List Mq) (i : Nat) : (Int → Option Int) × List Mq := match s.2[i]? with | some q => (appB s.1 q.B, s.2.set i (clr q)) | none => s
def stL (s : (Int → Option Int) × List Mq) (L : List Nat) : (Int → Option Int) × List Mq := L.foldl stB s
set_option maxRecDepth 100000 in
theorem stL_snoc (s : (Int → Option Int) × List Mq) (L : List Nat) (i : Nat) : stL s (L ++ [i]) = stB (stL s L) i := by simp [stL]
set_option maxRecDepth 100000 in
theorem map_set {α β : Type} (f : α → β) : ∀ (M : List α) (i : Nat) (q q' : α), M[i]? = some q → f q' = f q → (M.set i q').map f = M.map f
  | [], _, _, _, h, _ => by simp at h
  | a :: M, 0, q, q', h, e => by simp at h; simp [h, e]
  | a :: M, i + 1, q, q', h, e => by simp only [List.set_cons_succ, List.map_cons]; rw [map_set f M i q q' (by simpa using h) e]
set_option maxRecDepth 100000 in
theorem stB_nb (s : (Int → Option Int) × List Mq) (i : Nat) : (stB s i).2.map nb = s.2.map nb := by
  unfold stB
  split
  · rename_i q h
    exact map_set nb s.2 i q _ h rfl
  · rfl
set_option maxRecDepth 100000 in
theorem stL_nb : ∀ (L : List Nat) (s : (Int → Option Int) × List Mq), (stL s L).2.map nb = s.2.map nb
  | [], _ => rfl
  | i :: L, s => by
    show (stL (stB s i) L).2.map nb = _
    rw [stL_nb L, stB_nb]
/-- What all these marks know is put back, the last one's first. -/
def undo : List Mq → (Int → Option Int) → Int → Option Int
  | [], K => K
  | q :: M, K => appB (undo M K) q.B
set_option maxRecDepth 100000 in
theorem undo_snoc : ∀ (M : List Mq) (q : Mq) (K : Int → Option Int), undo (M ++ [q]) K = undo M (appB K q.B)
  | [], _, _ => rfl
  | a :: M, q, K => by simp only [List.cons_append, undo]; rw [undo_snoc M]
set_option maxRecDepth 100000 in
theorem drop_at {α : Type} : ∀ (l : List α) (i : Nat) (x : α), l[i]? = some x → l.drop i = x :: l.drop (i + 1)
  | [], i, x, h => by simp at h
  | a :: l, 0, x, h => by simp at h; simp [h]
  | a :: l, i + 1, x, h => by simpa using drop_at l i x (by simpa using h)
set_option maxRecDepth 100000 in
theorem take_at {α : Type} : ∀ (l : List α) (i : Nat) (x : α), l[i]? = some x → l.take (i + 1) = l.take i ++ [x]
  | [], i, x, h => by simp at h
  | a :: l, 0, x, h => by simp at h; simp [h]
  | a :: l, i + 1, x, h => by simpa using take_at l i x (by simpa using h)
set_option maxRecDepth 100000 in
theorem stL_down (K : Int → Option Int) (N R : List Mq) : ∀ k, k ≤ R.length → stL (K, N ++ R) ((dnL R.length k).map (N.length + ·)) = (undo (R.drop (R.length - k)) K, N ++ (R.take (R.length - k) ++ (R.drop (R.length - k)).map clr))
  | 0, _ => by simp [dnL, stL, undo]
  | k + 1, hk => by
    have ih := stL_down K N R k (by omega)
    rw [dnL_succ, List.map_append, List.map_cons, List.map_nil, stL_snoc, ih]
    obtain ⟨i, hi⟩ : ∃ i, R.length - 1 - k = i := ⟨_, rfl⟩
    have hi2 : R.length - k = i + 1 := by omega
    have hi3 : R.length - (k + 1) = i := by omega
    obtain ⟨q, hq⟩ : ∃ q, R[i]? = some q := ⟨_, List.getElem?_eq_getElem (by omega)⟩
    rw [hi, hi2, hi3, drop_at R i q hq, take_at R i q hq]
    have e : (N ++ (R.take i ++ [q] ++ (R.drop (i + 1)).map clr))[N.length + i]? = some q := by
      rw [List.getElem?_append_right (by omega), List.append_assoc, List.getElem?_append_right (by simp; omega)]
      simp
      rw [show i - min i R.length = 0 by omega]
      rfl
    unfold stB
    simp only
    rw [e]
    simp only [undo, List.map_cons]
    rw [List.set_append_right _ _ (by omega), List.append_assoc, List.set_append_right _ _ (by simp; omega)]
    simp only [List.length_take]
    rw [show N.length + i - N.length - min i R.length = 0 by omega]
    rfl
set_option maxRecDepth 100000 in
theorem stL_all (K : Int → Option Int) (N R : List Mq) : stL (K, N ++ R) ((dnL R.length R.length).map (N.length + ·)) = (undo R K, N ++ R.map clr) := by
  rw [stL_down K N R R.length (Nat.le_refl _), Nat.sub_self]
  simp
set_option maxRecDepth 100000 in
theorem app_note {K B : Int → Option Int} (hK : Vals K) (k s : Int) : appB (setK K k s) (if (B k).isSome then B else putK B k (stdK K k)) = appB K B := by
  funext x
  by_cases e : x = k
  · subst e
    cases hB : B x with
    | some f => simp [appB, hB]
    | none =>
      cases hx : K x with
      | none => simp [appB, putK, stdK, hB, hx]
      | some f =>
        have := hK x f hx
        have h2 : ¬ f = -1 := by omega
        simp [appB, putK, stdK, hB, hx, h2]
  · have h1 : setK K k s x = K x := by unfold setK delK putK; by_cases e2 : s = -1 <;> simp [e2, e]
    have h2 : (if (B k).isSome then B else putK B k (stdK K k)) x = B x := by
      by_cases e2 : (B k).isSome = true
      · rw [if_pos e2]
      · rw [if_neg e2]; unfold putK; rw [if_neg e]
    unfold appB
    rw [h1, h2]
set_option maxRecDepth 100000 in
theorem undo_note {K : Int → Option Int} (hK : Vals K) (k s : Int) {M : List Mq} (h : M ≠ []) : undo (noteM K k M) (setK K k s) = undo M K := by
  obtain ⟨N, q, rfl⟩ : ∃ N q, M = N ++ [q] := ⟨M.dropLast, M.getLast h, (List.dropLast_concat_getLast h).symm⟩
  rw [noteM_last, undo_snoc, undo_snoc]
  congr 1
  exact app_note hK k s
set_option maxRecDepth 100000 in
theorem nb_len {M M' : List Mq} (h : M.map nb = M'.map nb) : M.length = M'.length := by simpa using congrArg List.length h
set_option maxRecDepth 100000 in
theorem mkC_nb : ∀ (M M' : List Mq), M.map nb = M'.map nb → mkC M = mkC M'
  | [], [], _ => rfl
  | [], _ :: _, h => by simp at h
  | _ :: _, [], h => by simp at h
  | q :: M, q' :: M', h => by
    simp only [List.map_cons, List.cons.injEq] at h
    have h0 := mkC_nb M M' h.2
    have h1 : q.n = q'.n := congrArg Prod.fst h.1
    have h2 : q.b = q'.b := congrArg Prod.snd h.1
    unfold mkC at *
    rw [List.flatMap_cons, List.flatMap_cons, h0, h1, h2]
set_option maxRecDepth 100000 in
theorem nb_b {M M' : List Mq} (h : M.map nb = M'.map nb) : M.map Mq.b = M'.map Mq.b := by
  have := congrArg (List.map Prod.snd) h
  simp only [List.map_map] at this
  exact this
set_option maxRecDepth 100000 in
theorem apart_b {M : List Mq} : M.Pairwise (fun p q => p.b ≠ q.b) ↔ (M.map Mq.b).Pairwise (fun x y => x ≠ y) := by rw [List.pairwise_map]
set_option maxRecDepth 100000 in
theorem ne_of_apart {M : List Mq} (h : M.Pairwise (fun p q => p.b ≠ q.b)) {i j : Nat} {p q : Mq} (hi : M[i]? = some p) (hj : M[j]? = some q) (hne : i ≠ j) : p.b ≠ q.b := by
  rw [List.pairwise_iff_getElem] at h
  obtain ⟨i1, rfl⟩ := List.getElem?_eq_some_iff.1 hi
  obtain ⟨j1, rfl⟩ := List.getElem?_eq_some_iff.1 hj
  rcases Nat.lt_or_gt_of_ne hne with hl | hl
  · exact h i j i1 j1 hl
  · exact fun e => h j i j1 i1 hl e.symm
set_option maxRecDepth 100000 in
theorem OwnM.nb {w : World} {v : Value} {M M' : List Mq} (h : OwnM w v M) (e : M.map nb = M'.map nb) : OwnM w v M' := by
  unfold OwnM at *
  rw [← mkC_nb M M' e, ← nb_len e]
  exact h
section
variable {w u : World} {b m : Nat} {mv mv' : Value} {last : Int} {K B : Int → Option Int} {M M' : List Mq} {q : Mq}
set_option maxRecDepth 100000 in
/-- A mark's map holds something else. -/
theorem Fl.setI (h : Fl w b m mv last K M) {i : Nat} (hq : M[i]? = some q) (hc : Cf (· = q.b) w u) (hm : MK u q.b B) (hv : ∀ k f, B k = some f → -1 ≤ f ∧ f ≤ 1099511627776) : Fl u b m mv last K (M.set i { q with B := B }) := by
  obtain ⟨n1, n2, n3⟩ := mk_ne h
  have hqM := List.mem_of_getElem? hq
  have hmq := h.maps q hqM
  have e := map_set nb M i q { q with B := B } hq rfl
  refine ⟨h.fs.cf hc (fun e => (n3 q hqM).2 e.symm) (fun e => hmq.2.1 e.symm), (h.row.cf hc (fun x hx e => (n3 q hqM).1 (by rw [hx, e]))).nb e.symm, fun q' hq' => ?_, ?_⟩
  · obtain ⟨j, hj⟩ := List.getElem?_of_mem hq'
    by_cases ej : j = i
    · subst ej
      rw [List.getElem?_set_self (List.getElem?_eq_some_iff.1 hq).1] at hj
      cases hj
      exact ⟨hm, hmq.2.1, hv⟩
    · rw [List.getElem?_set_ne (fun h => ej h.symm)] at hj
      have h3 := h.maps q' (List.mem_of_getElem? hj)
      exact ⟨h3.1.cf hc (fun e => ne_of_apart h.apart hj hq ej e), h3.2⟩
  · rw [apart_b, nb_b e, ← apart_b]
    exact h.apart
set_option maxRecDepth 100000 in
/-- The marks' row is turned, what it says of them is not. -/
theorem Fl.turn (h : Fl w b m mv last K M) (hc : Cf (fun x => mv.ownBlock = some x) w u) (ho : OwnM u mv M) : Fl u b m mv last K M := by
  obtain ⟨n1, n2, n3⟩ := mk_ne h
  exact ⟨h.fs.cf hc n1 n2, ho, fun q' hq' => ⟨(h.maps q' hq').1.cf hc (fun e => (n3 q' hq').1 e), (h.maps q' hq').2⟩, h.apart⟩
set_option maxRecDepth 100000 in
/-- Some marks are left, in the same row. -/
theorem Fl.putm (h : Fl w b m mv last K M) (hc : Cf (fun x => mv.ownBlock = some x) w u) (ho : OwnM u mv' M') (hs : M'.Sublist M) : Fl (u.setCell ⟨b, 1025, none⟩ mv') b m mv' last K M' := by
  obtain ⟨n1, n2, n3⟩ := mk_ne h
  have hfs : Fs u b m mv last K := h.fs.cf hc n1 n2
  have hc2 : Cf (· = b) u (u.setCell ⟨b, 1025, none⟩ mv') := Cf.setCell (F := (· = b)) u (p := ⟨b, 1025, none⟩) rfl _
  obtain ⟨W, hb, _⟩ := hfs.box
  refine ⟨hfs.setm mv', ho.cf hc2 (fun k hk e => ?_), fun q' hq' => ?_, h.apart.sublist hs⟩
  · obtain ⟨cs, hcs⟩ := ho.ty hk
    rw [e] at hcs
    unfold Lb at hb
    rw [hb] at hcs
    injection hcs with hcs
    injection hcs with _ h2 _
    exact absurd h2 (by decide)
  · have hq2 := hs.subset hq'
    have h3 := h.maps q' hq2
    exact ⟨(h3.1.cf hc (fun e => (n3 q' hq2).1 e)).cf hc2 (fun e => (n3 q' hq2).2 e), h3.2⟩
end
set_option maxRecDepth 100000 in
theorem OwnM.take {w : World} {g n cap : Nat} {M : List Mq} (h : OwnM w (.slice (some ⟨g, 0, none⟩) n cap) M) (k : Nat) (hk : k ≤ M.length) : OwnM w (.slice (some ⟨g, 0, none⟩) k cap) (M.take k) := by
  unfold OwnM at *
  rcases h.2 with ⟨e, _⟩ | ⟨g', cap', cur, e, hg, hh, hnc, hm, hs, ht⟩
  · cases e
  · cases e
    have hl : (M.take k).length = k := by rw [List.length_take]; omega
    refine ⟨by rw [mkC_len], .inr ⟨g, cap, cur, by rw [hl], hg, hh, by omega, hm, hs, ?_⟩⟩
    have h1 : mkC M = mkC (M.take k) ++ mkC (M.drop k) := by rw [← mkC_append, List.take_append_drop]
    rw [hl]
    have h2 := congrArg (List.take (k * 2)) ht
    rw [List.take_take, h1, List.take_left' (by rw [mkC_len, hl])] at h2
    rw [← h2]
    congr 1
    omega
set_option maxRecDepth 100000 in
/-- A row's cells from a place on are written. -/
theorem setCells_row (g : Nat) : ∀ (vs : List Value) (o : Nat) (w : World) (cur : Array Value) (t : TypeId), w.heap[g]? = some (.cells cur t (0, 0)) → ∃ cur', (w.setCells g o vs).heap[g]? = some (.cells cur' t (0, 0)) ∧ cur'.size = cur.size ∧ ∀ j, j < o → cur'[j]? = cur[j]?
  | [], _, _, cur, _, h => ⟨cur, h, rfl, fun _ _ => rfl⟩
  | v :: vs, o, w, cur, t, h => by
    have h1 := heap_setCell_same w g o cur t v h
    obtain ⟨cur', h2, h3, h4⟩ := setCells_row g vs (o + 1) (w.setCell ⟨g, o, none⟩ v) _ t h1
    refine ⟨cur', h2, by rw [h3]; simp, fun j hj => ?_⟩
    rw [h4 j (by omega), Array.getElem?_setIfInBounds_ne (by omega)]
set_option maxRecDepth 100000 in
theorem cf_setCells (g : Nat) : ∀ (vs : List Value) (o : Nat) (w : World), Cf (· = g) w (w.setCells g o vs)
  | [], _, _ => Cf.refl _ _
  | v :: vs, o, w => (Cf.setCell (F := (· = g)) w (p := ⟨g, o, none⟩) rfl v).go (cf_setCells g vs (o + 1) _)
set_option maxRecDepth 100000 in
/-- clear of the marks behind the first k. -/
theorem run_clear_m {w : World} {g cap k n c : Nat} {M : List Mq} (h : OwnM w (.slice (some ⟨g, 0, none⟩) k cap) M) (hk : M.length = k) (hn : k + n ≤ cap) (h0 : 0 < n) (ty : TypeId) :
    ∃ w', (Builtin.clear_ #[61] ty #[.slice (some ⟨g, k * 2, none⟩) n c]).run Tryd.prog w = .ok (.tuple #[]) w' ∧ OwnM w' (.slice (some ⟨g, 0, none⟩) k cap) M ∧ Cf (· = g) w w' := by
  unfold OwnM at *
  rcases h.2 with ⟨e, _⟩ | ⟨g', cap', cur, e, hg, hh, hnc, hm, hs, ht⟩
  · cases e
  · cases e
    obtain ⟨vs, hvs⟩ : ∃ vs, (Builtin.zeroCells #[.int .i64 0, .map none] n).toList = vs := ⟨_, rfl⟩
    have hvl : vs.length = n * 2 := by rw [← hvs, Array.length_toList, size_zeroCells]; rfl
    have hv1 : ∀ v ∈ vs, v.oneCell' = true := by
      intro v hv
      rw [← hvs] at hv
      simp only [Builtin.zeroCells, Array.toList_map, List.mem_map] at hv
      obtain ⟨i, _, rfl⟩ := hv
      have : i % 2 = 0 ∨ i % 2 = 1 := by omega
      rcases this with e | e
      · show ((#[.int .i64 0, .map none] : Array Value)[i % 2]!).oneCell' = true
        rw [e]; rfl
      · show ((#[.int .i64 0, .map none] : Array Value)[i % 2]!).oneCell' = true
        rw [e]; rfl
    have hst := run_storeCells_cells (P := Tryd.prog) g (M.length * 2) vs 0 w (fun j hj => by
      unfold World.cell?
      rw [hh]
      simp
      omega) (fun j hj => frozen_of_row w g _ cur _ hh) hv1
    rw [Nat.add_zero] at hst
    obtain ⟨cur', h2, h3, h4⟩ := setCells_row g vs (M.length * 2) w cur _ hh
    refine ⟨w.setCells g (M.length * 2) vs, ?_, ⟨h.1, .inr ⟨g, cap, cur', by rw [hk], hg, h2, hnc, hm, by rw [h3]; exact hs, ?_⟩⟩, cf_setCells g vs _ w⟩
    · obtain ⟨n', rfl⟩ : ∃ n', n = n' + 1 := ⟨n - 1, by omega⟩
      rw [← hk]
      simp [Builtin.clear_, run_underlying Tryd.underlying61, Value.cells, hvs, hst]
    · rw [← ht]
      apply List.ext_getElem?
      intro i
      by_cases hi : i < M.length * 2
      · rw [List.getElem?_take_of_lt hi, List.getElem?_take_of_lt hi, Array.getElem?_toList, Array.getElem?_toList]
        exact h4 i hi
      · rw [List.getElem?_take_eq_none (by omega), List.getElem?_take_eq_none (by omega)]
end Go.Proofs.YtedgpcckbdnijaaDoor

/- Back at any mark, followed as its text goes. -/

namespace Go.Proofs.YtedgpcckbdnijaaDoor
open Go.RowKit Go.Maps Go.Shelf

attribute [local go_sem] Oper.semAt_some

set_option maxRecDepth 100000 in
theorem stL_at {K : Int → Option Int} {M : List Mq} (L : List Nat) {i : Nat} {q : Mq} (h : M[i]? = some q) : ∃ q2, (stL (K, M) L).2[i]? = some q2 ∧ q2.n = q.n ∧ q2.b = q.b := by
  have e := stL_nb L (K, M)
  have h1 : ((stL (K, M) L).2.map nb)[i]? = some (nb q) := by rw [e, List.getElem?_map, h]; rfl
  rw [List.getElem?_map] at h1
  cases h2 : (stL (K, M) L).2[i]? with
  | none => rw [h2] at h1; cases h1
  | some q2 =>
    rw [h2] at h1
    injection h1 with h1
    exact ⟨q2, rfl, congrArg Prod.fst h1, congrArg Prod.snd h1⟩
set_option maxRecDepth 100000 in
set_option maxHeartbeats 4000000 in
theorem back_any {w : World} {b m : Nat} {mv : Value} {last : Int} {K : Int → Option Int} {N R : List Mq} {q : Mq} (h : Fl w b m mv last K (N ++ q :: R)) (hN : ∀ x ∈ N, x.n ≠ q.n) :
    Calls Tryd.prog 12 #[pB b, .int .i64 q.n] w fun e u => e = .returned (.int .i64 0) ∧ Hid (∃ mv', mv'.ownBlock = mv.ownBlock ∧ Fl u b m mv' last (undo (q :: R) K) (N ++ [clr q]) ∧ Cf (Fb b m mv (N ++ q :: R)) w u) := by
  obtain ⟨t, ht⟩ : ∃ t, N.length = t := ⟨_, rfl⟩
  obtain ⟨r, hr⟩ : ∃ r, R.length = r := ⟨_, rfl⟩
  have hln : (N ++ q :: R).length = t + 1 + r := by rw [List.length_append, ht, List.length_cons, hr]; omega
  obtain ⟨ao, cap, rfl, hsh⟩ := h.row.shape
  rw [hln] at h hsh ⊢
  obtain ⟨g, rfl, hcap, hmx, hc⟩ : ∃ g, ao = some ⟨g, 0, none⟩ ∧ t + 1 + r ≤ cap ∧ cap ≤ maxLen ∧ ∀ (i : Nat) (q' : Mq), (N ++ q :: R)[i]? = some q' → w.cell? ⟨g, i * 2, none⟩ = some (.int .i64 q'.n) ∧ w.cell? ⟨g, i * 2 + 1, none⟩ = some (.map (some q'.b)) := by
    rcases hsh with h1 | h1
    · omega
    · exact h1
  have hcI : (cap : Int) ≤ 9223372036854775807 := by unfold maxLen at hmx; omega
  have htI : (t : Int) + 1 + (r : Int) ≤ (cap : Int) := by omega
  have hE : fdI (fun q' => q'.n == q.n) (N ++ q :: R) = (N.length : Int) := fdI_some (q := q) (by rw [List.getElem?_append_right (Nat.le_refl _)]; simp) (by simp) (fun j y hj hy => by
    rw [List.getElem?_append_left hj] at hy
    have := hN y (List.mem_of_getElem? hy)
    simpa using this)
  obtain ⟨M', hM'⟩ : ∃ M', N ++ [clr q] = M' := ⟨_, rfl⟩
  obtain ⟨K', hK'⟩ : ∃ K', undo (q :: R) K = K' := ⟨_, rfl⟩
  obtain ⟨M, hM⟩ : ∃ M, N ++ q :: R = M := ⟨_, rfl⟩
  have HALL : Hid (stL (K, M) ((dnL (1 + r) (1 + r)).map (t + ·)) = (K', M' ++ R.map clr)) := hidden (by
    have := stL_all K N (q :: R)
    rw [List.length_cons, hr, ht, hM, hK', show r + 1 = 1 + r by omega] at this
    rw [this, ← hM']
    simp)
  obtain ⟨Fq, hFq⟩ : ∃ F : Nat → Prop, Fb b m (.slice (some ⟨g, 0, none⟩) (t + 1 + r) cap) M = F := ⟨_, rfl⟩
  have HFq := hidden hFq
  rw [hM] at h hc hE
  have HML : Hid (M'.length = t + 1) := hidden (by rw [← hM', List.length_append, ht]; rfl)
  rw [hM', hK', hM, hFq]
  have HC := hidden hc
  have HLM : Hid (t + (1 + r) = M.length) := hidden (by rw [← hM, hln]; omega)
  obtain ⟨x, hx⟩ : ∃ x, w.alloc (.cells #[pB b] 25) = x := ⟨_, rfl⟩
  have hbx : Below w.heap.size w x := by rw [← hx]; exact bl_al (Below.refl _ _) (Nat.le_refl _) _
  have hcx : x.cell? ⟨w.heap.size, 0, none⟩ = some (pB b) := by rw [← hx]; simp
  have hxs : x.heap.size = w.heap.size + 1 := by rw [← hx]; simp
  have HX := hidden (h.on hbx)
  have HBX := hidden hbx
  have HFD := hidden (find_any HX.out q.n)
  have HW := hidden h
  rw [hE, ht] at HFD
  have e0 : decide (0 ≤ (t : Int)) = true := by simp
  rw [e0] at HFD
  generalize q.n = qn at *
  clear hsh hcap hmx hc hE hM' hK' hM hFq hln ht hr hN h hbx e0
  refine (callsIn_wide (n := 10)).1 ?_
  refine callsIn_of_wp_marks Tryd.func12 rfl trivial ?_ rfl
  simp only [Tryd.ntmps12, List.size_toArray, List.length_cons, List.length_nil, Nat.reduceAdd, Nat.reduceSub, Array.replicate_succ, Array.replicate_zero, List.push_toArray, List.append_toArray, List.nil_append, List.cons_append]
  gi_wp2_with (refine ⟨trivial, ?_⟩; gi_at_call 39; refine (callsIn_wide.2 HFD.out).mono ?_; rintro e w2 ⟨rfl, HB2⟩; refine Hid.out ?_)
  apply hidden
  have hc2 : w2.cell? ⟨w.heap.size, 0, none⟩ = some (pB b) := (HB2.out.cell (p := ⟨w.heap.size, 0, none⟩) (by rw [hxs]; exact Nat.lt_succ_self _)).trans hcx
  have H2 := hidden (HX.out.on HB2.out)
  have HBW : Hid (Below w.heap.size w w2) := hidden (HBX.out.trans (HB2.out.mono HBX.out.size))
  have hs2 : w.heap.size < w2.heap.size := by have := HB2.out.size; omega
  have cm := H2.out.fs.cm
  clear hcx hxs hx HX HFD HB2 HBX
  have hsub : t + 1 + r - t = 1 + r := by omega
  gi_wp2_with (refine ⟨trivial, ?_⟩; gi_at_call 40; refine (callsIn_wide.2 (back_made _ _ _ _)).mono ?_; rintro e w3 ⟨rfl, hw3⟩; refine Hid.out ?_)
  apply hidden
  rw [← hw3]
  have HW3 := hidden hw3
  clear cm hw3 hsub
  have hs3 : w3.heap.size = w2.heap.size + 1 := by rw [HW3.out]; simp
  have HB3 : Hid (Below w2.heap.size w2 w3) := hidden (by rw [HW3.out]; exact bl_al (Below.refl _ _) (Nat.le_refl _) _)
  have H3 := hidden (H2.out.on HB3.out)
  have hBs : w3.cell? ⟨w2.heap.size, 0, none⟩ = some (.slice (some ⟨g, t * 2, none⟩) (1 + r) (cap - t)) := by rw [HW3.out]; simp
  have hc3 : w3.cell? ⟨w.heap.size, 0, none⟩ = some (pB b) := (HB3.out.cell (p := ⟨w.heap.size, 0, none⟩) hs2).trans hc2
  have HBW3 : Hid (Below w.heap.size w w3) := hidden (HBW.out.trans (HB3.out.mono HBW.out.size))
  have HLT : Hid (∀ k, Fb b m (.slice (some ⟨g, 0, none⟩) (t + 1 + r) cap) M k → k < w.heap.size) := hidden (fun k hk => HW.out.lts hk)
  have HLS : Hid (∀ (L : List Nat) k, Fb b m (.slice (some ⟨g, 0, none⟩) (t + 1 + r) cap) (stL (K, M) L).2 k → k < w.heap.size) := hidden (fun L k hk => HLT.out k (Fb_map (nb_b (stL_nb L (K, M))) hk))
  have hbl := HLT.out b (.inl rfl)
  have hml := HLT.out m (.inr (.inl rfl))
  have hgl := HLT.out g (.inr (.inr (.inl rfl)))
  have HQB : Hid (∀ p ∈ M, p.b < w.heap.size ∧ p.b ≠ b ∧ p.b ≠ m ∧ p.b ≠ g) := hidden (fun p hp => by
    obtain ⟨n1, n2, n3⟩ := mk_ne HW.out
    exact ⟨HLT.out _ (.inr (.inr (.inr ⟨p, hp, rfl⟩))), (n3 p hp).2, (HW.out.maps p hp).2.1, fun e => (n3 p hp).1 (by rw [e]; rfl)⟩)
  have HGB : Hid (g ≠ b ∧ g ≠ m) := hidden (by
    obtain ⟨n1, n2, n3⟩ := mk_ne HW.out
    exact ⟨fun e => n1 (by rw [e]; rfl), fun e => n2 (by rw [e]; rfl)⟩)
  obtain ⟨Fk, hFk⟩ : ∃ F : Nat → Prop, F = fun k => k = b ∨ k = m ∨ (∃ p ∈ M, k = p.b) ∨ w3.heap.size ≤ k := ⟨_, rfl⟩
  have HFk := hidden hFk
  have hng : ¬ Fk g := by
    rw [hFk]
    rintro (e | e | ⟨p, hp, e⟩ | e)
    · exact HGB.out.1 e
    · exact HGB.out.2 e
    · exact (HQB.out p hp).2.2.2 e.symm
    · omega
  have hnB : ¬ Fk w2.heap.size := by
    rw [hFk]
    rintro (e | e | ⟨p, hp, e⟩ | e)
    · omega
    · omega
    · have := (HQB.out p hp).1
      omega
    · omega
  have HSEQ : Hid (SeqStopsK Fence.wide 9 Tryd.prog 62 #[.pointer (some ⟨w2.heap.size, 0, none⟩)] (miV M t) (Cf Fk) (fun ys => ys.map (fun x => x.1.1) = dnL (1 + r) (1 + r)) (fun _ => True) (1 + r) w3) := hidden (fun l J Jx W hW _ _ hY h0 => by
    refine (back1_in l w2.heap.size g (cap - t) (1 + r) t M HLM.out (by have := HLM.out; omega) (Cf Fk) (fun A B hk hA1 hA2 => ⟨World.cell?_of_block (hk.block _ hA1 hnB), fun i => World.cell?_of_block (hk.block _ hA2 hng)⟩) J Jx hY W ((hW.cell (p := ⟨w2.heap.size, 0, none⟩) (by rw [hs3]; exact Nat.lt_succ_self _)).trans hBs) (fun i q' hq' => ?_) h0).mono ?_
    · obtain ⟨d1, d2⟩ := HC.out i q' hq'
      have hgW : Below w.heap.size w W := HBW3.out.trans (hW.mono HBW3.out.size)
      exact ⟨(hgW.cell (p := ⟨g, i * 2, none⟩) hgl).trans d1, (hgW.cell (p := ⟨g, i * 2 + 1, none⟩) hgl).trans d2⟩
    · rintro e W' ⟨he, ⟨ys, hys, hj⟩ | hx⟩
      · exact ⟨he, .inl ⟨ys, hys, hj⟩⟩
      · exact ⟨he, .inr hx⟩)
  gi_wp2
  refine wpIn_rangeFunc_ownH (α := Mi M t) rfl (by decide : 1 ≤ 10) (gf := 62) (lb := #[.pointer (some ⟨w2.heap.size, 0, none⟩)]) rfl trivial (enters_of Tryd.func62 (by kernel_rfl) rfl)
    (encs := miV M t) (Kp := Cf Fk) (S := fun ys => ys.map (fun x => x.1.1) = dnL (1 + r) (1 + r)) (Sp := fun _ => True) (N := 1 + r) (w0 := w3) HSEQ.out (fun h k => h.go k) (fun W l o o' hl ho _ _ => ?hKb) (Below.refl _ _) (fun _ => rfl)
    (fun pre W => Hid (Fl W b m (.slice (some ⟨g, 0, none⟩) (t + 1 + r) cap) last (stL (K, M) (pre.map (fun x => t + x.1.1))).1 (stL (K, M) (pre.map (fun x => t + x.1.1))).2) ∧ Hid (Cf Fq w W) ∧ W.cell? ⟨w.heap.size, 0, none⟩ = some (pB b) ∧ w3.heap.size ≤ W.heap.size)
    (fun _ _ _ => False) ?hI (fun _ _ _ _ _ h _ _ => h) ?h0
    (fun x a' W => ∃ Bx, w3.heap.size ≤ Bx ∧ W.heap[Bx]? = some (.cells #[.int .i64 x.1.2.n, .map (some x.1.2.b)] 74 (0, 0)) ∧ a' = { tmps := #[pB b, .int .i64 qn, .pointer (some ⟨w.heap.size, 0, none⟩), undef, .int .i64 0, .int .i64 (t : Int), .bool true, undef, .pointer (some ⟨Bx, 0, none⟩), undef, undef, undef, .tuple #[.int .i64 (t : Int), .bool true], pB b, .int .i64 qn, .tuple #[.int .i64 (t : Int), .bool true], .int .i64 (t : Int), .bool true, .bool true, .bool false, pB b, .pointer (some ⟨b, 0, none⟩), .pointer (some ⟨b, 1025, none⟩), .slice (some ⟨g, 0, none⟩) (t + 1 + r) cap, .int .i64 (t : Int), .slice (some ⟨g, t * 2, none⟩) (1 + r) (cap - t), .func (.func 62) #[] #[.pointer (some ⟨w2.heap.size, 0, none⟩)], .int .i64 (x.1.1 : Int), .agg #[.int .i64 x.1.2.n, .map (some x.1.2.b)], undef, undef, undef, undef, undef, undef, undef, undef, undef, undef, undef, undef, undef, undef, undef, undef, undef, undef, undef, undef, undef, undef, undef, undef, undef, undef, undef, undef, undef, undef, undef, undef], defers := [] })
    ?hAx ?assign ?body ?done ?stop
  case hKb =>
    refine (Cf.ofGrown (grownBy_putObj' W l o')).wd (fun k hk => ?_)
    cases hk
    rw [HFk.out]
    exact .inr (.inr (.inr hl))
  case hI =>
    intro pre A B row hs hg hr
    have hcf := Cf.ofGrown hg
    refine ⟨hidden (hs.1.out.cf hcf (fun k hk e => ?_)), hidden (hs.2.1.out.trans hcf (fun k hk e => ?_)), ?_, Nat.le_trans hs.2.2.2 hg.size⟩
    · have h1 := (hr k e).1
      have := HLS.out _ k hk
      omega
    · have h1 := (hr k e).1
      omega
    · have h1 := cell_lt hs.2.2.1
      rw [← hs.2.2.1]
      exact World.cell?_of_block (hg.block w.heap.size h1 (fun e => by have := (hr _ e.symm).1; omega))
  case h0 => exact ⟨H3, hidden (Cf.of_below HBW3.out), hc3, Nat.le_refl _⟩
  case hAx =>
    rintro x a' _ A B row ⟨Bx, h1, h2, h3⟩ hg hr
    refine ⟨Bx, h1, ?_, h3⟩
    rw [hg.block Bx (lt_some h2) (fun e => ?_)]
    · exact h2
    · obtain ⟨_, o, ho, hc⟩ := hr _ e.symm
      rw [h2] at ho
      cases ho
      cases hc
  case assign =>
    rintro l pre x W K0 ⟨HI, HC', hbox, hsz⟩ hK
    unfold miV
    gi_wp2
    have hba : Below W.heap.size W (W.alloc (.cells #[.int .i64 x.1.2.n, .map (some x.1.2.b)] 74)) := bl_al (Below.refl _ _) (Nat.le_refl _) _
    exact hK _ _ ((KeepsOthers.alloc _ _).from _) (Cf.of_below hba) ⟨hidden (HI.out.on hba), hidden (HC'.out.trans (Cf.of_below (F := Fq) hba) (fun _ _ h => h)), (hba.cell (p := ⟨w.heap.size, 0, none⟩) (cell_lt hbox)).trans hbox, Nat.le_trans hsz hba.size⟩ ⟨W.heap.size, hsz, al_row W _, rfl⟩
  case body =>
    rintro l pre ⟨⟨i, q0⟩, hq0⟩ a' W hl ⟨r0, hr0⟩ ⟨HI, HCW, hbox, hsz⟩ ⟨Bx, hBx, hbx, rfl⟩ hlt
    simp only at hq0 hbx ⊢
    obtain ⟨q', hq', hn', hb'⟩ := stL_at (K := K) (pre.map (fun x => t + x.1.1)) hq0
    have HMB := hidden (nb_b (stL_nb (pre.map (fun x : Mi M t => t + x.1.1)) (K, M)))
    have HLM2 := hidden (HLS.out (pre.map (fun x => t + x.1.1)))
    have HSN : Hid (stL (K, M) ((pre ++ [(⟨(i, q0), hq0⟩ : Mi M t)]).map (fun x : Mi M t => t + x.1.1)) = (appB (stL (K, M) (pre.map (fun x => t + x.1.1))).1 q'.B, (stL (K, M) (pre.map (fun x => t + x.1.1))).2.set (t + i) (clr q'))) := hidden (by
      rw [List.map_append, List.map_cons, List.map_nil, stL_snoc]
      unfold stB
      rw [hq'])
    have HQM : Hid (∃ p ∈ M, q'.b = p.b) := hidden ⟨q0, List.mem_of_getElem? hq0, hb'⟩
    rw [← hn', ← hb'] at hbx ⊢
    generalize stL (K, M) (pre.map (fun x => t + x.1.1)) = sS at *
    obtain ⟨KS, MS⟩ := sS
    simp only at HI HMB HLM2 HSN hq'
    have hmk := HI.out.maps _ (List.mem_of_getElem? hq')
    obtain ⟨D, hown, hD, hszD⟩ := hmk.1.size
    have HD := hidden hD
    have HMK := hidden hmk
    have HQ' := hidden hq'
    have hqb2 : ¬ (q'.b = b ∨ q'.b = m) := by
      obtain ⟨p, hp, e⟩ := HQM.out
      have h1 := HQB.out p hp
      rw [e]
      rintro (e | e)
      · exact h1.2.1 e
      · exact h1.2.2.1 e
    have c1 : W.cell? ⟨Bx, 1, none⟩ = some (.map (some q'.b)) := by unfold World.cell?; rw [hbx]; rfl
    generalize hn : Maps.size D = n at *
    clear hD hmk hbx hq' hn' hb'
    gi_wp2_with (first
      | (gi_at_range; refine wpListIn_range_own _ rfl _ 56 rfl 3 3 kI Tryd.underlying56 _ q'.b n _ rfl hown ?_; intro v0 hrg0 hg0 hs0)
      | gi_in)
    go_frame
    rw [hn] at hrg0
    have hb0 : Below W.heap.size W v0 := ⟨hg0.os, hg0.tape, hg0.output, hg0.size, fun k hk => hg0.block k hk (by simp)⟩
    have hBxl := cell_lt c1
    have hbxl := cell_lt hbox
    gi_loopw [9, 10] (fun _ _ wr => ∃ (left : Lit → Bool) (cnt : Nat), Hid (wr.ranges Tryd.prog 3 (plainElem Tryd.prog 3) q'.b W.heap.size n D left cnt) ∧ Hid (Fl wr b m (.slice (some ⟨g, 0, none⟩) (t + 1 + r) cap) last (appL KS q'.B left) MS) ∧ Hid (Cf (fun k => k = b ∨ k = m) W wr))
      (fun _ _ wr => wr.rangeLeft q'.b W.heap.size)
    case atStart => exact ⟨_, _, hidden hrg0, hidden (by rw [appL_start HD.out]; exact HI.out.on hb0), hidden (Cf.of_below hb0)⟩
    case round =>
      obtain ⟨left, cnt, HRG, HFL, HCR⟩ := hrel
      have n1 : ¬ (w.heap.size = b ∨ w.heap.size = m) := by omega
      have n2 : ¬ (Bx = b ∨ Bx = m) := by omega
      have hboxr : wr.cell? ⟨w.heap.size, 0, none⟩ = some (pB b) := (World.cell?_of_block (HCR.out.block _ hbxl n1)).trans hbox
      have c1r : wr.cell? ⟨Bx, 1, none⟩ = some (.map (some q'.b)) := (World.cell?_of_block (HCR.out.block _ hBxl n2)).trans c1
      clear hrg0 hg0 hs0 hown
      gi_wp2_with (first
        | (gi_at_next; refine wpListIn_next_ranges_ii _ rfl _ rfl 3 3 .i64 .i64 kI Tryd.underlying3 Tryd.underlying3 q'.b W.heap.size n _ _ _ rfl HRG.out ?_ ?_)
        | gi_in)
      · intro _ hl0
        rw [appL_end hl0] at HFL
        obtain ⟨u, hru, hmu, hcu⟩ := (HFL.out.maps _ (List.mem_of_getElem? HQ'.out)).1.clear 0
        clear hl0
        gi_wp2
        have hcT : Cf (fun k => k = b ∨ k = m ∨ k = q'.b) W u := (HCR.out.wd fun k hk => by
          rcases hk with hk | hk
          · exact .inl hk
          · exact .inr (.inl hk)).go (hcu.wd fun k hk => .inr (.inr hk))
        have hqlt : q'.b < w.heap.size := by
          obtain ⟨p, hp, e⟩ := HQM.out
          rw [e]
          exact (HQB.out p hp).1
        refine ⟨⟨hcT.size, fun k o hB hk _ => (hcT.block k (lt_some hk) (by omega)).trans hk⟩, hcT.wd (fun k hk => ?_), ?_, hidden (HCW.out.trans hcT (fun k _ hk => ?_)), ?_, Nat.le_trans hsz hcT.size⟩
        · rw [HFk.out]
          rcases hk with hk | hk | hk
          · exact .inl hk
          · exact .inr (.inl hk)
          · obtain ⟨p, hp, e⟩ := HQM.out
            exact .inr (.inr (.inl ⟨p, hp, hk.trans e⟩))
        · have h6 := HFL.out.setI HQ'.out hcu hmu (fun k f h => by cases h)
          rw [HSN.out]
          exact hidden h6
        · rw [← HFq.out]
          rcases hk with hk | hk | hk
          · exact .inl hk
          · exact .inr (.inl hk)
          · obtain ⟨p, hp, e⟩ := HQM.out
            exact .inr (.inr (.inr ⟨p, hp, hk.trans e⟩))
        · exact (World.cell?_of_block (hcT.block w.heap.size hbxl (by omega))).trans hbox
      · intro x c v1 cnt1 hwx hwc hlx hat hrg1 hltc hg1 hs1 hen
        have hKx := HD.out.val hat
        have hpx := HMK.out.1.2 x c hKx
        have hcx := HMK.out.2.2 x c hKx
        obtain ⟨xn, rfl⟩ : ∃ xn : Nat, x = (xn : Int) := ⟨x.toNat, by omega⟩
        have hcf1 := Cf.ofGrown hg1
        have hF1 : Fl v1 b m (.slice (some ⟨g, 0, none⟩) (t + 1 + r) cap) last (appL KS q'.B left) MS := HFL.out.cf hcf1 (fun k hk e => by
          have := HLM2.out k hk
          have : W.heap.size = k := by injection e
          omega)
        have HSET := hidden (hF1.set xn (by omega) c hcx)
        rw [appL_step hKx] at HSET
        have hne1 : some w.heap.size ≠ some W.heap.size := by
          intro e
          injection e with e
          omega
        have hbox1 : v1.cell? ⟨w.heap.size, 0, none⟩ = some (pB b) := (World.cell?_of_block (hg1.block w.heap.size (cell_lt hboxr) hne1)).trans hboxr
        have HRG1 := hidden hrg1
        have HG1 := hidden hg1
        clear hrg1 hg1 hs1 hat hlx hKx
        gi_wp2_with (refine ⟨trivial, ?_⟩; gi_at_call 25; refine (CallsIn.inRound l (callsIn_wide.2 HSET.out)).mono ?_; rintro e u2 ⟨rfl, HU⟩)
        have HR2 := hidden (ranges_cf HRG1.out HU.out.2 hqb2 (by omega))
        have HC2 : Hid (Cf (fun k => k = b ∨ k = m) W u2) := hidden ((HCR.out.trans (Cf.ofGrown HG1.out) (fun k hk e => by
          have : W.heap.size = k := by injection e
          omega)).go HU.out.2)
        refine ⟨⟨_, cnt1, HR2, hidden HU.out.1, HC2⟩, ?_⟩
        rw [HR2.out.left_eq, HRG.out.left_eq]
        exact hltc
  case done =>
    rintro D xs W hD hS ⟨HI, HCW, hbox, hsz⟩ hK
    have hall := HALL.out
    rw [← hS, List.map_map] at hall
    have hall2 : stL (K, M) (xs.map (fun x => t + x.1.1)) = (K', M' ++ R.map clr) := hall
    rw [hall2] at HI
    simp only at HI
    clear hS hall hall2
    have HTK : Hid (Fl (W.setCell ⟨b, 1025, none⟩ (.slice (some ⟨g, 0, none⟩) (t + 1) cap)) b m (.slice (some ⟨g, 0, none⟩) (t + 1) cap) last K' M') := hidden (by
      have h1 : OwnM W (.slice (some ⟨g, 0, none⟩) (t + 1) cap) M' := by
        have h2 := HI.out.row.take (t + 1) (by rw [List.length_append, HML.out]; omega)
        rw [List.take_left' HML.out] at h2
        exact h2
      exact HI.out.putm (Cf.refl _ _) h1 (List.sublist_append_left _ _))
    have cm := HI.out.fs.cm
    have fm := HI.out.fs.fz 1025
    have HFB : Hid (∀ k, Fb b m (.slice (some ⟨g, 0, none⟩) (t + 1) cap) M' k → k < w.heap.size) := hidden (fun k hk => by
      have h1 := HLS.out ((dnL (1 + r) (1 + r)).map (t + ·)) k
      rw [HALL.out] at h1
      refine h1 ?_
      rcases hk with e | e | e | ⟨p, hp, e⟩
      · exact .inl e
      · exact .inr (.inl e)
      · exact .inr (.inr (.inl e))
      · exact .inr (.inr (.inr ⟨p, List.mem_append_left _ hp, e⟩)))
    have HCX : Hid (Cf Fq w (W.setCell ⟨b, 1025, none⟩ (.slice (some ⟨g, 0, none⟩) (t + 1) cap))) := hidden (HCW.out.go (Cf.setCell (F := Fq) W (p := ⟨b, 1025, none⟩) (by rw [← HFq.out]; exact .inl rfl) _))
    have HKD : Hid ((W.setCell ⟨b, 1025, none⟩ (.slice (some ⟨g, 0, none⟩) (t + 1) cap)).heap[D]? = some (.deferred (some []))) := hidden ((Below.heap_setCell _ _ _ _ (by simp only; omega)).trans hK)
    have HFIN : Hid (∀ X, X = (W.setCell ⟨b, 1025, none⟩ (.slice (some ⟨g, 0, none⟩) (t + 1) cap)).drew → X.heap[D]? = some (.deferred (some [])) ∧ Fl X b m (.slice (some ⟨g, 0, none⟩) (t + 1) cap) last K' M' ∧ Cf Fq w X) := hidden (by
      rintro X rfl
      exact ⟨HKD.out, HTK.out.drew 1, HCX.out.trans (Cf.drew Fq _ 1) (fun _ _ h => h)⟩)
    have HEND : Hid (∀ X, Fl X b m (.slice (some ⟨g, 0, none⟩) (t + 1) cap) last K' M' → Cf Fq w X → Fl (X.putObj D (.deferred none)) b m (.slice (some ⟨g, 0, none⟩) (t + 1) cap) last K' M' ∧ Cf Fq w (X.putObj D (.deferred none))) := hidden (by
      intro X h1 h2
      have hcD := Cf.ofGrown (grownBy_putObj' X D (.deferred none))
      refine ⟨h1.cf hcD (fun k hk e => by
        have := HFB.out k hk
        have : D = k := by injection e
        omega), h2.trans hcD (fun k hk e => by
        have : D = k := by injection e
        omega)⟩)
    clear HTK HKD HCX HI HCW
    by_cases hr0 : r = 0
    · subst hr0
      simp only [Nat.add_zero] at *
      by_cases hcp : cap = t + 1
      · subst hcp
        gi_wp2
        gi_region
        obtain ⟨X, hX⟩ : ∃ X, (W.setCell ⟨b, 1025, none⟩ (.slice (some ⟨g, 0, none⟩) (t + 1) (t + 1))).drew = X := ⟨_, rfl⟩
        obtain ⟨f1, f2, f3⟩ := HFIN.out X hX.symm
        rw [hX]
        have HF2 := hidden (HEND.out X f2 f3)
        have hclr := clear_none (some ⟨g, 0, none⟩) 0 0 X
        clear HFIN f2 f3
        gi_wp2
        refine ⟨by simp, .inl ⟨_, _, rfl, run_takeDeferred f1, ?_⟩⟩
        exact ⟨_, results_tmp rfl _ _ _, rfl, hidden ⟨_, rfl, HF2.out⟩⟩
      · have hlt1 : t + 1 < cap := by omega
        have hlt2 : (t : Int) + 1 < (cap : Int) := by omega
        have hne2 : ¬ cap - (t + 1) = 0 := by omega
        gi_wp2
        gi_region
        obtain ⟨X, hX⟩ : ∃ X, (W.setCell ⟨b, 1025, none⟩ (.slice (some ⟨g, 0, none⟩) (t + 1) cap)).drew = X := ⟨_, rfl⟩
        obtain ⟨f1, f2, f3⟩ := HFIN.out X hX.symm
        rw [hX]
        have HF2 := hidden (HEND.out X f2 f3)
        have hclr := clear_none (some ⟨g, (t + 1) * 2, none⟩) (cap - (t + 1)) 0 X
        clear HFIN f2 f3
        gi_wp2
        refine ⟨by simp, .inl ⟨_, _, rfl, run_takeDeferred f1, ?_⟩⟩
        exact ⟨_, results_tmp rfl _ _ _, rfl, hidden ⟨_, rfl, HF2.out⟩⟩
    · have hlt1 : t + 1 < cap := by omega
      have hlt2 : (t : Int) + 1 < (cap : Int) := by omega
      have hne2 : ¬ cap - (t + 1) = 0 := by omega
      have hsub : t + 1 + r - (t + 1) = r := by omega
      gi_wp2
      gi_region
      obtain ⟨X, hX⟩ : ∃ X, (W.setCell ⟨b, 1025, none⟩ (.slice (some ⟨g, 0, none⟩) (t + 1) cap)).drew = X := ⟨_, rfl⟩
      obtain ⟨f1, f2, f3⟩ := HFIN.out X hX.symm
      rw [hX]
      obtain ⟨Y, hclr, ho', hc'⟩ := run_clear_m (c := cap - (t + 1)) (n := r) f2.row HML.out (by omega) (by omega) 0
      have f1Y : Y.heap[D]? = some (.deferred (some [])) := (hc'.block D (lt_some f1) (by omega)).trans f1
      have HF2 := hidden (HEND.out Y (f2.turn (hc'.wd (fun y hy => by rw [hy]; rfl)) ho') (f3.go (hc'.wd (fun y hy => by rw [← HFq.out, hy]; exact .inr (.inr (.inl rfl))))))
      clear HFIN f2 f3 ho' hc'
      gi_wp2
      refine ⟨by simp, .inl ⟨_, _, rfl, run_takeDeferred f1Y, ?_⟩⟩
      exact ⟨_, results_tmp rfl _ _ _, rfl, hidden ⟨.slice (some ⟨g, 0, none⟩) (t + 1) cap, rfl, HF2.out⟩⟩
  case stop =>
    rintro D c pre W _ _ h _
    exact h.elim
end Go.Proofs.YtedgpcckbdnijaaDoor

/- slices.DeleteFunc of marks of which the first ones go. -/

namespace Go.Proofs.YtedgpcckbdnijaaDoor
open Go.RowKit Go.Maps

def KindC (M : List Mq) (g fg : Nat) (lb : Array Value) (f : Mq → Bool) (w : World) : Prop := ∀ (q : Mq), q ∈ M → ∀ (u : World), Cf (· = g) w u → Calls Tryd.prog fg (#[mqV q] ++ lb) u fun e u' => e = .returned (.bool (f q)) ∧ Hid (Below u.heap.size u u')
/-- The marks while they are shifted. -/
def mid (M : List Mq) (r j : Nat) : List Mq := (M.drop r).take (j - r) ++ M.drop (j - r)
set_option maxRecDepth 100000 in
theorem mid_len (M : List Mq) (r j : Nat) (hj : j ≤ M.length) : (mid M r j).length = M.length := by
  unfold mid
  simp only [List.length_append, List.length_take, List.length_drop]
  omega
set_option maxRecDepth 100000 in
theorem mid_at {M : List Mq} {r j : Nat} {q : Mq} (hr : 1 ≤ r) (hq : M[j]? = some q) : (mid M r j)[j]? = some q := by
  have hj := (List.getElem?_eq_some_iff.1 hq).1
  unfold mid
  by_cases h : j < r
  · rw [show j - r = 0 by omega]
    simpa using hq
  · rw [List.getElem?_append_right (by simp only [List.length_take, List.length_drop]; omega)]
    simp only [List.length_take, List.length_drop, List.getElem?_drop]
    rw [show j - r + (j - min (j - r) (M.length - r)) = j by omega]
    exact hq
set_option maxRecDepth 100000 in
theorem mid_skip {M : List Mq} {r j : Nat} (h : j < r) : mid M r (j + 1) = mid M r j := by
  unfold mid
  rw [show j + 1 - r = 0 by omega, show j - r = 0 by omega]
set_option maxRecDepth 100000 in
theorem mid_put {M : List Mq} {r j : Nat} {q : Mq} (hr : 1 ≤ r) (h : r ≤ j) (hq : M[j]? = some q) : (mid M r j).set (j - r) q = mid M r (j + 1) := by
  have hj := (List.getElem?_eq_some_iff.1 hq).1
  obtain ⟨s, rfl⟩ : ∃ s, j = r + s := ⟨j - r, by omega⟩
  unfold mid
  rw [show r + s - r = s by omega, show r + s + 1 - r = s + 1 by omega]
  have h1 : (M.drop r)[s]? = some q := by rw [List.getElem?_drop]; exact hq
  rw [take_at _ s q h1, List.set_append_right _ _ (by simp only [List.length_take]; omega)]
  simp only [List.length_take, List.length_drop]
  rw [show s - min s (M.length - r) = 0 by omega]
  obtain ⟨p, hp⟩ : ∃ p, M[s]? = some p := ⟨_, List.getElem?_eq_getElem (by omega)⟩
  rw [drop_at M s p hp]
  simp
set_option maxRecDepth 100000 in
theorem mid_end (M : List Mq) (r : Nat) : (mid M r M.length).take (M.length - r) = M.drop r := by
  unfold mid
  have h : ((M.drop r).take (M.length - r)).length = M.length - r := by simp
  rw [List.take_left' h, List.take_of_length_le (by simp)]
set_option maxRecDepth 100000 in
theorem OwnM.put {w : World} {g cap : Nat} {L : List Mq} (h : OwnM w (.slice (some ⟨g, 0, none⟩) L.length cap) L) (i : Nat) (q : Mq) (hi : i < L.length) : OwnM ((w.setCell ⟨g, i * 2, none⟩ (.int .i64 q.n)).setCell ⟨g, i * 2 + 1, none⟩ (.map (some q.b))) (.slice (some ⟨g, 0, none⟩) L.length cap) (L.set i q) := by
  unfold OwnM at *
  rcases h.2 with ⟨e, _⟩ | ⟨g', cap', cur, e, hg, hh, hnc, hm, hs, ht⟩
  · cases e
  · cases e
    have hb := heap_setCell_same _ g (i * 2 + 1) _ _ (.map (some q.b)) (heap_setCell_same w g (i * 2) cur _ (.int .i64 q.n) hh)
    refine ⟨by rw [mkC_len], .inr ⟨g, cap, _, by rw [List.length_set], hg, hb, by rw [List.length_set]; exact hnc, hm, by simp [hs], ?_⟩⟩
    rw [List.length_set]
    have hcl := mkC_len L
    have hc2 := mkC_len (L.set i q)
    rw [List.length_set] at hc2
    apply List.ext_getElem?
    intro k
    by_cases hk : k < L.length * 2
    · rw [List.getElem?_take_of_lt hk, Array.getElem?_toList]
      have hcur : cur[k]? = (mkC L)[k]? := by rw [← ht, List.getElem?_take_of_lt hk, Array.getElem?_toList]
      obtain ⟨d, hd⟩ : ∃ d, k / 2 = d := ⟨_, rfl⟩
      have hdl : d < L.length := by omega
      obtain ⟨p, hp⟩ : ∃ p, L[d]? = some p := ⟨_, List.getElem?_eq_getElem hdl⟩
      obtain ⟨a1, a2⟩ := mkC_at L d p hp
      by_cases e : d = i
      · subst e
        have hs2 : (L.set d q)[d]? = some q := List.getElem?_set_self hdl
        obtain ⟨b1, b2⟩ := mkC_at _ d q hs2
        have : k = 2 * d ∨ k = 2 * d + 1 := by omega
        rcases this with rfl | rfl
        · rw [b1, Array.getElem?_setIfInBounds_ne (by omega), show 2 * d = d * 2 by omega, Array.getElem?_setIfInBounds_self_of_lt (by omega)]
        · rw [b2, show 2 * d + 1 = d * 2 + 1 by omega, Array.getElem?_setIfInBounds_self_of_lt (by simp; omega)]
      · have hs2 : (L.set i q)[d]? = some p := by rw [List.getElem?_set_ne (fun h => e h.symm)]; exact hp
        obtain ⟨b1, b2⟩ := mkC_at _ d p hs2
        rw [Array.getElem?_setIfInBounds_ne (by omega), Array.getElem?_setIfInBounds_ne (by omega), hcur]
        have : k = 2 * d ∨ k = 2 * d + 1 := by omega
        rcases this with rfl | rfl
        · rw [a1, b1]
        · rw [a2, b2]
    · rw [List.getElem?_take_eq_none (by omega), List.getElem?_eq_none (by omega)]
set_option maxRecDepth 100000 in
theorem OwnM.fz {w : World} {g n cap : Nat} {L : List Mq} (h : OwnM w (.slice (some ⟨g, 0, none⟩) n cap) L) (i : Nat) : w.frozen? ⟨g, i, none⟩ = false := by
  obtain ⟨cs, hcs⟩ := h.ty rfl
  exact frozen_of_row w g i cs _ hcs
set_option maxRecDepth 100000 in
set_option maxHeartbeats 4000000 in
theorem delete_pre {w : World} {g cap : Nat} {M : List Mq} (h : OwnM w (.slice (some ⟨g, 0, none⟩) M.length cap) M) (fg : Nat) (lb : Array Value) (f : Mq → Bool) (hf : KindC M g fg lb f w) (eg : ∀ args w, (callFunc fg args).run Tryd.prog w = .ok (.enter fg args) w)
    (r : Nat) (hr0 : 1 ≤ r) (hr : r ≤ M.length) (ho : ∀ (i : Nat) (q : Mq), i < r → M[i]? = some q → f q = true) (hy : ∀ (i : Nat) (q : Mq), r ≤ i → M[i]? = some q → f q = false) :
    Calls Tryd.prog 58 #[.slice (some ⟨g, 0, none⟩) M.length cap, .func (.func fg) #[] lb] w fun e u => e = .returned (.slice (some ⟨g, 0, none⟩) (M.length - r) cap) ∧ Hid (OwnM u (.slice (some ⟨g, 0, none⟩) (M.length - r) cap) (M.drop r) ∧ Cf (· = g) w u) := by
  have HI := hidden (index_any h fg lb f (fun q hq u hu => hf q hq u (Cf.of_below hu)) eg)
  obtain ⟨q0, hq0⟩ : ∃ q, M[0]? = some q := ⟨_, List.getElem?_eq_getElem (by omega)⟩
  rw [show fdI f M = ((0 : Nat) : Int) from fdI_some hq0 (ho 0 q0 (by omega) hq0) (fun j x hj => by omega)] at HI
  have HW := hidden h
  have HF := hidden hf
  have HO := hidden ho
  have HY := hidden hy
  obtain ⟨n, hn⟩ : ∃ n, M.length = n := ⟨_, rfl⟩
  have HN := hidden hn
  have hgl : g < w.heap.size := h.lt rfl
  have hcap : n ≤ cap ∧ cap ≤ maxLen := by
    obtain ⟨ao, c, e, hsh⟩ := h.shape
    cases e
    rcases hsh with h0 | ⟨g', _, h1, h2, _⟩
    · omega
    · exact ⟨by omega, h2⟩
  have hcI : (cap : Int) ≤ 9223372036854775807 := by have := hcap.2; unfold maxLen at this; omega
  have hc1 := hcap.1
  have hnI : (n : Int) ≤ (cap : Int) := by omega
  rw [hn] at hr HI HW ⊢
  obtain ⟨s, rfl⟩ : ∃ s, n = s + r := ⟨n - r, by omega⟩
  rw [Nat.add_sub_cancel]
  clear h hf ho hy hq0 hn hcap
  go_enter Tryd.func58, Tryd.ntmps58
  go_wp2_with (go_at_call 60; refine HI.out.mono ?_; rintro e w2 ⟨rfl, HB⟩)
  have HO2 : Hid (OwnM w2 (.slice (some ⟨g, 0, none⟩) (s + r) cap) (mid M r 1)) := hidden (by
    have : mid M r 1 = M := by unfold mid; rw [show 1 - r = 0 by omega]; simp
    rw [this]
    exact HW.out.cf (F := fun _ => False) (Cf.of_below HB.out) (fun _ _ h => h))
  have HC2 : Hid (Cf (· = g) w w2) := hidden (Cf.of_below HB.out)
  clear HW HI HB
  go_loopw [5, 6, 7] (fun i j _ wr => ∃ k : Nat, 1 ≤ k ∧ k ≤ s + r ∧ j = .int .i64 (k : Int) ∧ i = .int .i64 ((k - r : Nat) : Int) ∧ Hid (OwnM wr (.slice (some ⟨g, 0, none⟩) (s + r) cap) (mid M r k)) ∧ Hid (Cf (· = g) w wr)) (fun _ j _ _ => s + r - (RowKit.intOf j).toNat)
  case atStart => exact ⟨1, by omega, by omega, rfl, by rw [show 1 - r = 0 by omega]; rfl, HO2, HC2⟩
  case round =>
    obtain ⟨k, hk1, hk, rfl, rfl, HOW, HC⟩ := hrel
    clear HO2 HC2
    by_cases hlt : k < s + r
    · have hltI : (k : Int) < (s : Int) + (r : Int) := by omega
      obtain ⟨q, hq⟩ : ∃ q, M[k]? = some q := ⟨_, List.getElem?_eq_getElem (by rw [HN.out]; exact hlt)⟩
      have hml : (mid M r k).length = s + r := by rw [mid_len M r k (by rw [HN.out]; exact hk), HN.out]
      have hgl2 : g < wr.heap.size := Nat.lt_of_lt_of_le hgl HC.out.size
      obtain ⟨c1, c2⟩ : wr.cell? ⟨g, k * 2, none⟩ = some (.int .i64 q.n) ∧ wr.cell? ⟨g, k * 2 + 1, none⟩ = some (.map (some q.b)) := by
        obtain ⟨ao, c, e, hsh⟩ := HOW.out.shape
        injection e with e1 e2 e3
        rcases hsh with h0 | ⟨g', e, _, _, hc⟩
        · omega
        · rw [← e1] at e
          cases e
          exact hc k q (mid_at hr0 hq)
      obtain ⟨y, hy⟩ : ∃ y, wr.alloc (.cells #[.int .i64 q.n, .map (some q.b)] 74) = y := ⟨_, rfl⟩
      have hby : Below wr.heap.size wr y := by rw [← hy]; exact bl_al (Below.refl _ _) (Nat.le_refl _) _
      have hyb : y.heap[wr.heap.size]? = some (.cells #[.int .i64 q.n, .map (some q.b)] 74 (0, 0)) := by rw [← hy]; exact al_row _ _
      have hys := lt_some hyb
      have y1 : y.cell? ⟨wr.heap.size, 0, none⟩ = some (.int .i64 q.n) := by unfold World.cell?; rw [hyb]; rfl
      have y2 : y.cell? ⟨wr.heap.size, 1, none⟩ = some (.map (some q.b)) := by unfold World.cell?; rw [hyb]; rfl
      have HCY : Hid (Cf (· = g) w y) := hidden (HC.out.go (Cf.of_below hby))
      have HOY : Hid (OwnM y (.slice (some ⟨g, 0, none⟩) (s + r) cap) (mid M r k)) := hidden (HOW.out.cf (F := fun _ => False) (Cf.of_below hby) (fun _ _ h => h))
      have HFQ := hidden (HF.out q (List.mem_of_getElem? hq) y HCY.out)
      unfold mqV at HFQ
      have HQ := hidden hq
      clear hq hby hyb HOW HC
      by_cases hkr : k < r
      · have hfq := HO.out k q hkr HQ.out
        rw [hfq] at HFQ
        have hk0 : k - r = 0 := by omega
        rw [hk0]
        have HM1 := hidden (mid_skip (M := M) hkr)
        clear hfq
        go_wp2_with (go_at_fn fg; refine HFQ.out.mono ?_; rintro e w3 ⟨rfl, HB3⟩)
        go_roundw
        case rel => exact ⟨k + 1, by omega, by omega, by go_num, by rw [show k + 1 - r = 0 by omega]; rfl, by rw [HM1.out]; exact hidden (HOY.out.cf (F := fun _ => False) (Cf.of_below HB3.out) (fun _ _ h => h)), hidden (HCY.out.go (Cf.of_below HB3.out))⟩
        case measure => simp [RowKit.intOf]; omega
      · have hfq := HY.out k q (by omega) HQ.out
        rw [hfq] at HFQ
        obtain ⟨i, hi⟩ : ∃ i, k - r = i := ⟨_, rfl⟩
        rw [hi]
        have hil : i < s + r := by omega
        have hilI : (i : Int) < (s : Int) + (r : Int) := by omega
        have HIK : Hid (k + 1 - r = i + 1) := hidden (by omega)
        have HM1 : Hid ((mid M r k).set i q = mid M r (k + 1)) := hidden (by rw [← hi]; exact mid_put hr0 (by omega) HQ.out)
        have HPUT : Hid (∀ u, OwnM u (.slice (some ⟨g, 0, none⟩) (s + r) cap) (mid M r k) → OwnM ((u.setCell ⟨g, i * 2, none⟩ (.int .i64 q.n)).setCell ⟨g, i * 2 + 1, none⟩ (.map (some q.b))) (.slice (some ⟨g, 0, none⟩) (s + r) cap) (mid M r (k + 1))) := hidden (fun u hu => by
          rw [← HM1.out]
          rw [← hml] at hu hil ⊢
          exact hu.put i q hil)
        clear hfq hi
        go_wp2_with (go_at_fn fg; refine HFQ.out.mono ?_; rintro e w3 ⟨rfl, HB3⟩; refine Hid.out ?_)
        apply hidden
        have z1 : w3.cell? ⟨wr.heap.size, 0, none⟩ = some (.int .i64 q.n) := (HB3.out.cell (p := ⟨wr.heap.size, 0, none⟩) hys).trans y1
        have z2 : w3.cell? ⟨wr.heap.size, 1, none⟩ = some (.map (some q.b)) := (HB3.out.cell (p := ⟨wr.heap.size, 1, none⟩) hys).trans y2
        have HO3 : Hid (OwnM w3 (.slice (some ⟨g, 0, none⟩) (s + r) cap) (mid M r k)) := hidden (HOY.out.cf (F := fun _ => False) (Cf.of_below HB3.out) (fun _ _ h => h))
        have HC3 : Hid (Cf (· = g) w w3) := hidden (HCY.out.go (Cf.of_below HB3.out))
        have f1 := HO3.out.fz (i * 2)
        have f2 := HO3.out.fz (i * 2 + 1)
        obtain ⟨⟨g1, hg1⟩, ⟨g2, hg2⟩⟩ : (∃ v, w3.cell? ⟨g, i * 2, none⟩ = some v) ∧ (∃ v, w3.cell? ⟨g, i * 2 + 1, none⟩ = some v) := by
          obtain ⟨ao, c, e, hsh⟩ := HO3.out.shape
          injection e with e1 e2 e3
          rcases hsh with h0 | ⟨g', e, _, _, hc⟩
          · omega
          · rw [← e1] at e
            cases e
            obtain ⟨p, hp⟩ : ∃ p, (mid M r k)[i]? = some p := ⟨_, List.getElem?_eq_getElem (by rw [hml]; exact hil)⟩
            obtain ⟨a1, a2⟩ := hc i p hp
            exact ⟨⟨_, a1⟩, ⟨_, a2⟩⟩
        clear y1 y2 HFQ c1 c2
        go_wp2_with fail
        go_roundw
        case rel => exact ⟨k + 1, by omega, by omega, by go_num, by rw [HIK.out]; go_num, hidden (HPUT.out w3 HO3.out), hidden (HC3.out.go ((Cf.setCell (F := (· = g)) w3 (p := ⟨g, i * 2, none⟩) rfl _).go (Cf.setCell (F := (· = g)) _ (p := ⟨g, i * 2 + 1, none⟩) rfl _)))⟩
        case measure => simp [RowKit.intOf]; omega
    · obtain rfl : k = s + r := by omega
      have HOE : Hid (OwnM wr (.slice (some ⟨g, 0, none⟩) s cap) (M.drop r)) := hidden (by
        have h1 := HOW.out.take s (by rw [mid_len M r _ (by rw [HN.out]; exact Nat.le_refl _), HN.out]; omega)
        have h2 := mid_end M r
        rw [HN.out, Nat.add_sub_cancel] at h2
        rw [h2] at h1
        exact h1)
      have hdl : (M.drop r).length = s := by rw [List.length_drop, HN.out]; omega
      obtain ⟨w', hclr, ho', hc'⟩ := run_clear_m (c := cap - s) HOE.out hdl (by omega : s + r ≤ cap) (by omega) 0
      have HO' := hidden ho'
      have HC' := hidden (HC.out.go hc')
      rw [Nat.add_sub_cancel]
      have hsc : s < cap := by omega
      have hscI : (s : Int) < (cap : Int) := by omega
      clear ho' hc' HOE HOW HC hdl hlt
      go_wp2_with fail
      go_ret
      exact ⟨rfl, hidden ⟨HO'.out, HC'.out⟩⟩
end Go.Proofs.YtedgpcckbdnijaaDoor

/- forget and Mark where the first marks are too old. -/

namespace Go.Proofs.YtedgpcckbdnijaaDoor
open Go.RowKit Go.Maps

set_option maxRecDepth 100000 in
set_option maxHeartbeats 2000000 in
theorem forget_pre {w : World} {b m g cap : Nat} {last : Int} {K : Int → Option Int} {M : List Mq} (h : Fl w b m (.slice (some ⟨g, 0, none⟩) M.length cap) last K M) (hn : Nums last M) (r : Nat) (hr0 : 1 ≤ r) (hr : r ≤ M.length) (ho : ∀ (i : Nat) (q : Mq), i < r → M[i]? = some q → 16 ≤ last - q.n) (hy : ∀ (i : Nat) (q : Mq), r ≤ i → M[i]? = some q → last - q.n < 16) :
    Calls Tryd.prog 38 #[pB b] w fun e u => e = .returned (.tuple #[]) ∧ Hid (Fl u b m (.slice (some ⟨g, 0, none⟩) (M.length - r) cap) last K (M.drop r) ∧ Cf (Fb b m (.slice (some ⟨g, 0, none⟩) M.length cap) M) w u) := by
  obtain ⟨x, hx⟩ : ∃ x, w.alloc (.cells #[pB b] 25) = x := ⟨_, rfl⟩
  have hbx : Below w.heap.size w x := by rw [← hx]; exact bl_al (Below.refl _ _) (Nat.le_refl _) _
  have hcx : x.cell? ⟨w.heap.size, 0, none⟩ = some (pB b) := by rw [← hx]; simp
  have hxs : x.heap.size = w.heap.size + 1 := by rw [← hx]; simp
  have HX := hidden (h.on hbx)
  have HBX := hidden hbx
  have HLT : Hid (g < w.heap.size) := hidden (h.row.lt rfl)
  have HD : Hid (∀ v, (∃ k, v = x.drewN k) → Calls Tryd.prog 58 #[.slice (some ⟨g, 0, none⟩) M.length cap, .func (.func 59) #[] #[.pointer (some ⟨w.heap.size, 0, none⟩)]] v fun e u => e = .returned (.slice (some ⟨g, 0, none⟩) (M.length - r) cap) ∧ Hid (Fs u b m (.slice (some ⟨g, 0, none⟩) M.length cap) last K ∧ (Fl (u.setCell ⟨b, 1025, none⟩ (.slice (some ⟨g, 0, none⟩) (M.length - r) cap)) b m (.slice (some ⟨g, 0, none⟩) (M.length - r) cap) last K (M.drop r) ∧ Cf (Fb b m (.slice (some ⟨g, 0, none⟩) M.length cap) M) w (u.setCell ⟨b, 1025, none⟩ (.slice (some ⟨g, 0, none⟩) (M.length - r) cap))) ∧ u.cell? ⟨w.heap.size, 0, none⟩ = some (pB b))) := hidden (by
    rintro v ⟨k, rfl⟩
    have hv : Fl (x.drewN k) b m (.slice (some ⟨g, 0, none⟩) M.length cap) last K M := HX.out.drew k
    obtain ⟨n1, n2, n3⟩ := mk_ne hv
    refine (delete_pre hv.row 59 #[.pointer (some ⟨w.heap.size, 0, none⟩)] (oldF last) (fun q hqM u hu => ?_) (enters_of Tryd.func59 (by kernel_rfl) rfl) r hr0 hr (fun i q hi hq => ?_) (fun i q hi hq => ?_)).mono ?_
    · have h1 := hn.2.2 q hqM
      have h2 := hn.2.1
      have hne : ¬ w.heap.size = g := by have := HLT.out; omega
      have hcu : u.cell? ⟨w.heap.size, 0, none⟩ = some (pB b) := (World.cell?_of_block (hu.block w.heap.size (by show w.heap.size < x.heap.size; omega) hne)).trans hcx
      exact old_any (hv.fs.cf hu (fun e => n1 (by rw [e]; rfl)) (fun e => n2 (by rw [e]; rfl))) w.heap.size hcu (cell_lt hcu) q u (Below.refl _ _) (by omega)
    · have := ho i q hi hq
      simpa [oldF] using this
    · have := hy i q hi hq
      simp only [oldF, decide_eq_false_iff_not]
      omega
    · rintro e u ⟨rfl, HU⟩
      obtain ⟨hO, hC⟩ := HU.out
      have hC' : Cf (fun y => (Value.slice (some ⟨g, 0, none⟩) M.length cap).ownBlock = some y) (x.drewN k) u := hC.wd (fun y hy => by rw [hy]; rfl)
      have hd : Below x.heap.size x (x.drewN k) := ⟨rfl, rfl, rfl, Nat.le_refl _, fun _ _ => rfl⟩
      have hne : ¬ w.heap.size = g := by have := HLT.out; omega
      have hwx : Cf (Fb b m (.slice (some ⟨g, 0, none⟩) M.length cap) M) w u := ((Cf.of_below HBX.out).go (Cf.of_below hd)).go (hC.wd (fun y hy => .inr (.inr (.inl (by rw [hy]; rfl)))))
      exact ⟨rfl, hidden ⟨hv.fs.cf hC' n1 n2, ⟨hv.putm hC' hO (List.drop_sublist r M), hwx.go (Cf.setCell (F := Fb b m (.slice (some ⟨g, 0, none⟩) M.length cap) M) u (p := ⟨b, 1025, none⟩) (.inl rfl) _)⟩, (World.cell?_of_block (hC.block w.heap.size (by show w.heap.size < x.heap.size; omega) hne)).trans hcx⟩⟩)
  have c1 := HX.out.fs.cm
  clear h hbx hn hy ho
  generalize M.length = n at *
  go_enter Tryd.func38, Tryd.ntmps38
  go_wp2_with fail
  go_region_law (first
    | (go_simp; go_at_call 58; refine (HD.out _ (by first | exact ⟨0, rfl⟩ | exact ⟨1, rfl⟩ | exact ⟨2, rfl⟩ | exact ⟨_, rfl⟩)).mono ?_; rintro e u ⟨rfl, HU⟩; have c2 := HU.out.1.cm; have f2 := HU.out.1.fz 1025; have c3 := HU.out.2.2))
  all_goals
    go_end0
    exact ⟨rfl, hidden HU.out.2.1⟩
set_option maxRecDepth 100000 in
set_option maxHeartbeats 2000000 in
theorem mark_gen {w : World} {b m : Nat} {mv : Value} {last : Int} {K : Int → Option Int} {M M1 : List Mq} (h : Fl w b m mv last K M) (h0 : 0 ≤ last) (hl : last < 4611686018427387904) (hsub : ∀ q ∈ M1, q ∈ M)
    (hfg : Calls Tryd.prog 38 #[pB b] (w.setCell ⟨b, 1026, none⟩ (.int .i64 (last + 1))) fun e u => e = .returned (.tuple #[]) ∧ Hid (∃ mv1, mv1.ownBlock = mv.ownBlock ∧ Fl u b m mv1 (last + 1) K M1 ∧ Cf (Fb b m mv M) (w.setCell ⟨b, 1026, none⟩ (.int .i64 (last + 1))) u)) (hM : M1.length ≤ 1000) :
    Calls Tryd.prog 11 #[pB b] w fun e u => e = .returned (.int .i64 (last + 1)) ∧ Hid (∃ mv' bq, Fl u b m mv' (last + 1) K (M1 ++ [⟨last + 1, bq, fun _ => none⟩]) ∧ Cf (Fb b m mv M) w u ∧ w.heap.size ≤ bq ∧ (∀ k, mv'.ownBlock = some k → mv.ownBlock = some k ∨ w.heap.size ≤ k)) := by
  have hmm := @run_makeMap Tryd.prog
  have cl := h.fs.cl
  have fl := h.fs.fz 1026
  have HCS : Hid (Cf (· = b) w (w.setCell ⟨b, 1026, none⟩ (.int .i64 (last + 1)))) := hidden (Cf.setCell (F := (· = b)) w (p := ⟨b, 1026, none⟩) rfl _)
  have HFG := hidden hfg
  have HSB := hidden hsub
  clear h hfg hsub
  go_enter Tryd.func11, Tryd.ntmps11
  go_wp2_with (go_at_call 38; refine HFG.out.mono ?_; rintro e x ⟨rfl, HX0⟩; refine Hid.out ?_)
  apply hidden
  obtain ⟨mv1, hmv, hX1, hX2⟩ := HX0.out
  have HX : Hid (Fl x b m mv1 (last + 1) K M1 ∧ Cf (Fb b m mv M) w x) := hidden ⟨hX1, (HCS.out.wd fun k hk => .inl hk).go hX2⟩
  have HMV := hidden hmv
  have HFB : Hid (∀ k, Fb b m mv1 M1 k → Fb b m mv M k) := hidden (fun k hk => by
    rcases hk with h1 | h1 | h1 | ⟨q, hq, h1⟩
    · exact .inl h1
    · exact .inr (.inl h1)
    · exact .inr (.inr (.inl (by rw [← HMV.out]; exact h1)))
    · exact .inr (.inr (.inr ⟨q, HSB.out q hq, h1⟩)))
  clear HX0 hX1 hX2 hmv
  have cm := HX.out.1.fs.cm
  have cl2 := HX.out.1.fs.cl
  obtain ⟨ao, cap, rfl, _⟩ := HX.out.1.row.shape
  have hbl := HX.out.1.fs.lt
  have hba : Below x.heap.size x (x.alloc (.map #[] 0)) := bl_al (Below.refl _ _) (Nat.le_refl _) _
  have cmA : (x.alloc (.map #[] 0)).cell? ⟨b, 1025, none⟩ = some (.slice ao M1.length cap) := (hba.cell (p := ⟨b, 1025, none⟩) hbl).trans cm
  have clA : (x.alloc (.map #[] 0)).cell? ⟨b, 1026, none⟩ = some (.int .i64 (last + 1)) := (hba.cell (p := ⟨b, 1026, none⟩) hbl).trans cl2
  have hbb : Below x.heap.size x ((x.alloc (.map #[] 0)).alloc (.cells #[.int .i64 (last + 1), .map (some x.heap.size)] 74)) := hba.trans ((bl_al (Below.refl _ _) (Nat.le_refl _) _).mono hba.size)
  have cmB : ((x.alloc (.map #[] 0)).alloc (.cells #[.int .i64 (last + 1), .map (some x.heap.size)] 74)).cell? ⟨b, 1025, none⟩ = some (.slice ao M1.length cap) := (hbb.cell (p := ⟨b, 1025, none⟩) hbl).trans cm
  clear cl fl HFG hba hbb
  go_wp2_with fail
  go_region_law (first
    | (refine step_m rfl (.tmp 16) (.tmp 23) rfl M1 ⟨last + 1, x.heap.size, fun _ => none⟩ (.slice ao M1.length cap) (x.heap.size + 1) rfl rfl (app_ahead HX.out.1 (by first | exact ⟨0, rfl⟩ | exact ⟨1, rfl⟩ | exact ⟨2, rfl⟩)).1 (app_ahead HX.out.1 (by first | exact ⟨0, rfl⟩ | exact ⟨1, rfl⟩ | exact ⟨2, rfl⟩)).2.1 (app_ahead HX.out.1 (by first | exact ⟨0, rfl⟩ | exact ⟨1, rfl⟩ | exact ⟨2, rfl⟩)).2.2.1 hM ?_; intro v' w' ho hg; have hd := app_done HX.out.1 (by first | exact ⟨0, rfl⟩ | exact ⟨1, rfl⟩ | exact ⟨2, rfl⟩) ho hg; obtain ⟨vo, vc, rfl, _⟩ := ho.shape; have c2 := hd.1; have f2 := hd.2.1; have HD := hidden hd.2.2; clear ho hg hd))
  all_goals
    have hl2 : (M1 ++ [(⟨last + 1, x.heap.size, fun _ => none⟩ : Mq)]).length = M1.length + 1 := by simp
    rw [hl2] at HD
    obtain ⟨z, hz⟩ : ∃ z, w'.setCell ⟨b, 1025, none⟩ (.slice vo (M1.length + 1) vc) = z := ⟨_, rfl⟩
    rw [hz] at HD ⊢
    have cl3 := HD.out.1.1.fs.cl
    clear hz c2 f2 cmA clA cmB cm cl2 hl2
    go_wp2_with fail
    go_ret
    refine ⟨rfl, hidden ⟨_, x.heap.size, HD.out.1.1, HX.out.2.go (HD.out.1.2.wd HFB.out), HX.out.2.size, fun k hk => ?_⟩⟩
    rcases HD.out.2 k hk with e | e
    · exact .inl (by rw [← HMV.out]; exact e)
    · exact .inr (Nat.le_trans HX.out.2.size e)
set_option maxRecDepth 100000 in
/-- Mark where the first r marks are too old. -/
theorem mark_any {w : World} {b m : Nat} {mv : Value} {last : Int} {K : Int → Option Int} {M : List Mq} (h : Fl w b m mv last K M) (hn : Nums last M) (hl : last < 4611686018427387904) (r : Nat) (hr : r ≤ M.length) (ho : ∀ (i : Nat) (q : Mq), i < r → M[i]? = some q → 16 ≤ last + 1 - q.n) (hy : ∀ (i : Nat) (q : Mq), r ≤ i → M[i]? = some q → last + 1 - q.n < 16) (hM : M.length ≤ 1000) :
    Calls Tryd.prog 11 #[pB b] w fun e u => e = .returned (.int .i64 (last + 1)) ∧ Hid (∃ mv' bq, Fl u b m mv' (last + 1) K (M.drop r ++ [⟨last + 1, bq, fun _ => none⟩]) ∧ Cf (Fb b m mv M) w u ∧ w.heap.size ≤ bq ∧ (∀ k, mv'.ownBlock = some k → mv.ownBlock = some k ∨ w.heap.size ≤ k)) := by
  have hcs : Cf (· = b) w (w.setCell ⟨b, 1026, none⟩ (.int .i64 (last + 1))) := Cf.setCell (F := (· = b)) w (p := ⟨b, 1026, none⟩) rfl _
  have h1 : Fl (w.setCell ⟨b, 1026, none⟩ (.int .i64 (last + 1))) b m mv (last + 1) K M := by
    obtain ⟨n1, n2, n3⟩ := mk_ne h
    exact ⟨h.fs.setl _, h.row.cf hcs (fun k hk e => n1 (by rw [hk, e])), fun q hq => ⟨(h.maps q hq).1.cf hcs (fun e => (n3 q hq).2 e), (h.maps q hq).2⟩, h.apart⟩
  have hn1 : Nums (last + 1) M := ⟨by have := hn.1; omega, by omega, fun q hq => by have := hn.2.2 q hq; omega⟩
  refine mark_gen h hn.1 hl (fun q hq => List.mem_of_mem_drop hq) ?_ (by rw [List.length_drop]; omega)
  by_cases hr0 : r = 0
  · subst hr0
    refine (forget_none h1 hn1 (fun q hq => ?_)).mono ?_
    · obtain ⟨i, hi⟩ := List.getElem?_of_mem hq
      exact hy i q (Nat.zero_le _) hi
    · rintro e u ⟨rfl, HU⟩
      exact ⟨rfl, hidden ⟨mv, rfl, HU.out.1, HU.out.2.wd fun k hk => .inl hk⟩⟩
  · obtain ⟨ao, cap, rfl, hsh⟩ := h1.row.shape
    obtain ⟨g, rfl, _⟩ : ∃ g, ao = some ⟨g, 0, none⟩ ∧ True := by
      rcases hsh with h2 | ⟨g, e, _⟩
      · omega
      · exact ⟨g, e, trivial⟩
    refine (forget_pre h1 hn1 r (by omega) hr ho hy).mono ?_
    rintro e u ⟨rfl, HU⟩
    exact ⟨rfl, hidden ⟨.slice (some ⟨g, 0, none⟩) (M.length - r) cap, rfl, HU.out.1, HU.out.2⟩⟩
end Go.Proofs.YtedgpcckbdnijaaDoor

/- One call of a list, as the law act makes it; what it does to what the marks know. -/

namespace Go.Proofs.YtedgpcckbdnijaaDoor
open Go.RowKit Go.Maps

/-- The least free page. -/
def lsP (K : Int → Option Int) : Option Nat := (List.range 65536).find? (fun p => decide (K (p : Int) = some 0))
set_option maxRecDepth 100000 in
theorem lsP_some {K : Int → Option Int} {p : Nat} (h : Lst K p) (hp : p < 65536) : lsP K = some p := by
  unfold lsP
  rw [List.find?_range_eq_some]
  refine ⟨by simp [h.1], by simpa using hp, fun j hj => ?_⟩
  have := h.2 j hj
  simp [this]
set_option maxRecDepth 100000 in
theorem lsP_none {K : Int → Option Int} (h : ∀ x, K x ≠ some 0) : lsP K = none := by
  unfold lsP
  rw [List.find?_eq_none]
  intro x _
  simp [h (x : Int)]
def actR (K : Int → Option Int) (kd A B : Int) : Int := if kd = 1 then (match lsP K with | some p => (p : Int) | none => -1) else if kd = 2 then giveE K A B else if kd = 3 then ((kL K (dueF A)).length : Int) else 0
def actK (K : Int → Option Int) (kd A B : Int) : Int → Option Int := if kd = 1 then (match lsP K with | some p => setK K p (-1) | none => K) else if kd = 2 then (if giveE K A B = 0 then setK K A B else K) else if kd = 3 then relK K A else K
def actM (K : Int → Option Int) (M : List Mq) (kd A B : Int) : List Mq := if kd = 1 then (match lsP K with | some p => noteM K p M | none => M) else if kd = 2 then (if giveE K A B = 0 then noteM K A M else M) else if kd = 3 then (relS (kL K (dueF A)) (K, M)).2 else M
set_option maxRecDepth 100000 in
theorem noteM_nb (K : Int → Option Int) (k : Int) : ∀ M : List Mq, (noteM K k M).map nb = M.map nb
  | [] => rfl
  | [q] => rfl
  | q :: r :: M => by
    have := noteM_nb K k (r :: M)
    unfold noteM
    rw [List.map_cons, this]
    rfl
set_option maxRecDepth 100000 in
theorem relS_nb : ∀ (l : List Int) (s : (Int → Option Int) × List Mq), (relS l s).2.map nb = s.2.map nb
  | [], _ => rfl
  | p :: l, s => by
    unfold relS
    rw [relS_nb l]
    exact noteM_nb _ _ _
set_option maxRecDepth 100000 in
theorem actM_nb (K : Int → Option Int) (M : List Mq) (kd A B : Int) : (actM K M kd A B).map nb = M.map nb := by
  unfold actM
  split
  · split
    · exact noteM_nb _ _ _
    · rfl
  · split
    · split
      · exact noteM_nb _ _ _
      · rfl
    · split
      · exact relS_nb _ _
      · rfl
set_option maxRecDepth 100000 in
theorem vals_set {K : Int → Option Int} (h : Vals K) (p s : Int) (hs : -1 ≤ s ∧ s ≤ 1099511627776) : Vals (setK K p s) := by
  intro x f hx
  unfold setK delK putK at hx
  by_cases e2 : s = -1
  · rw [if_pos e2] at hx
    by_cases e : x = p
    · simp [e] at hx
    · simp only [if_neg e] at hx; exact h x f hx
  · rw [if_neg e2] at hx
    by_cases e : x = p
    · simp [e] at hx; omega
    · simp only [if_neg e] at hx; exact h x f hx
set_option maxRecDepth 100000 in
theorem nb_ne {M M' : List Mq} (h : M.map nb = M'.map nb) (hn : M' ≠ []) : M ≠ [] := by
  rintro rfl
  exact hn (by simpa using h.symm)
set_option maxRecDepth 100000 in
theorem undo_rel : ∀ (l : List Int) (K : Int → Option Int) (M : List Mq), Vals K → M ≠ [] → undo (relS l (K, M)).2 (relS l (K, M)).1 = undo M K
  | [], _, _, _, _ => rfl
  | p :: l, K, M, h, hM => by
    unfold relS
    rw [undo_rel l _ _ (vals_set h p 0 (by decide)) (nb_ne (noteM_nb _ _ _) hM)]
    exact undo_note h p 0 hM
set_option maxRecDepth 100000 in
theorem undo_act {K : Int → Option Int} {M : List Mq} (hK : Vals K) (hP : Pgs K) (hM : M ≠ []) (kd A B : Int) : undo (actM K M kd A B) (actK K kd A B) = undo M K := by
  unfold actM actK
  by_cases h1 : kd = 1
  · rw [if_pos h1, if_pos h1]
    cases lsP K with
    | none => rfl
    | some p => exact undo_note hK p (-1) hM
  · rw [if_neg h1, if_neg h1]
    by_cases h2 : kd = 2
    · rw [if_pos h2, if_pos h2]
      by_cases h3 : giveE K A B = 0
      · rw [if_pos h3, if_pos h3]; exact undo_note hK A B hM
      · rw [if_neg h3, if_neg h3]
    · rw [if_neg h2, if_neg h2]
      by_cases h3 : kd = 3
      · rw [if_pos h3, if_pos h3, ← relS_K hP A M]
        exact undo_rel _ K M hK hM
      · rw [if_neg h3, if_neg h3]
set_option maxRecDepth 100000 in
theorem actM_nil (K : Int → Option Int) (kd A B : Int) : actM K [] kd A B = [] := by
  have := actM_nb K [] kd A B
  simpa using this
set_option maxRecDepth 100000 in
theorem act2 (K : Int → Option Int) (M : List Mq) (A B : Int) : actR K 2 A B = giveE K A B ∧ actK K 2 A B = (if giveE K A B = 0 then setK K A B else K) ∧ actM K M 2 A B = if giveE K A B = 0 then noteM K A M else M := by
  unfold actR actK actM
  have h : ¬ (2 : Int) = 1 := by decide
  rw [if_neg h, if_neg h, if_neg h, if_pos rfl, if_pos rfl, if_pos rfl]
  exact ⟨rfl, rfl, rfl⟩
set_option maxRecDepth 100000 in
theorem act3 (K : Int → Option Int) (M : List Mq) (A B : Int) : actR K 3 A B = ((kL K (dueF A)).length : Int) ∧ actK K 3 A B = relK K A ∧ actM K M 3 A B = (relS (kL K (dueF A)) (K, M)).2 := by
  unfold actR actK actM
  have h : ¬ (3 : Int) = 1 := by decide
  have h2 : ¬ (3 : Int) = 2 := by decide
  rw [if_neg h, if_neg h, if_neg h, if_neg h2, if_neg h2, if_neg h2, if_pos rfl, if_pos rfl, if_pos rfl]
  exact ⟨rfl, rfl, rfl⟩
def AcTo (w : World) (b m : Nat) (mv : Value) (last : Int) (K : Int → Option Int) (M : List Mq) (kd A B : Int) (u : World) : Prop := Fl u b m mv last (actK K kd A B) (actM K M kd A B) ∧ Cf (Fb b m mv M) w u
set_option maxRecDepth 100000 in
theorem AcTo.none {w u : World} {b m : Nat} {mv : Value} {last : Int} {K : Int → Option Int} {M : List Mq} {kd A B : Int} (h : Fl w b m mv last K M) (hu : Below w.heap.size w u) (h1 : kd ≠ 1) (h2 : kd ≠ 2) (h3 : kd ≠ 3) : AcTo w b m mv last K M kd A B u := by
  unfold AcTo actK actM
  rw [if_neg h1, if_neg h1, if_neg h2, if_neg h2, if_neg h3, if_neg h3]
  exact ⟨h.on hu, Cf.of_below hu⟩
set_option maxRecDepth 100000 in
set_option maxHeartbeats 2000000 in
theorem act_any {w : World} {b m : Nat} {mv : Value} {last : Int} {K : Int → Option Int} {M : List Mq} (h : Fl w b m mv last K M) (hT : Tz w) (kd A B : Int) (h7 : kd ≠ 7) :
    Calls Tryd.prog 10 #[pB b, .agg #[.int .i64 kd, .int .i64 A, .int .i64 B]] w fun e u => e = .returned (.int .i64 (actR K kd A B)) ∧ Hid (AcTo w b m mv last K M kd A B u) := by
  obtain ⟨x, hx⟩ : ∃ x, w.alloc (.cells #[.int .i64 kd, .int .i64 A, .int .i64 B] 38) = x := ⟨_, rfl⟩
  have hbx : Below w.heap.size w x := by rw [← hx]; exact bl_al (Below.refl _ _) (Nat.le_refl _) _
  have HX := hidden (h.on hbx)
  have HBX := hidden hbx
  have HW := hidden h
  have HCB : Hid (∀ u, Cf (Fb b m mv M) x u → Cf (Fb b m mv M) w u) := hidden (fun u hu => (Cf.of_below HBX.out).go hu)
  have hob : x.heap[w.heap.size]? = some (.cells #[.int .i64 kd, .int .i64 A, .int .i64 B] 38 (0, 0)) := by rw [← hx]; exact al_row _ _
  have k0 : x.cell? ⟨w.heap.size, 0, none⟩ = some (.int .i64 kd) := by unfold World.cell?; rw [hob]; rfl
  have k1 : x.cell? ⟨w.heap.size, 1, none⟩ = some (.int .i64 A) := by unfold World.cell?; rw [hob]; rfl
  have k2 : x.cell? ⟨w.heap.size, 2, none⟩ = some (.int .i64 B) := by unfold World.cell?; rw [hob]; rfl
  have HTX : Hid (Tz x) := hidden (fun j hj => (hbx.cell (p := ⟨0, j, none⟩) (World.block_lt_of_cell? w _ (hT j hj))).trans (hT j hj))
  clear h hT hbx hob
  by_cases h1 : kd = 1
  · subst h1
    have HK := hidden (take_any HX.out HTX.out)
    go_enter Tryd.func10, Tryd.ntmps10
    go_wp2_with (go_at_call 16; refine HK.out.mono ?_; rintro e u ⟨p, ok, rfl, HU⟩; refine Hid.out ?_)
    apply hidden
    cases ok with
    | true =>
      obtain ⟨hl, hf, hc⟩ : Lst K p ∧ Fl u b m mv last (setK K p (-1)) (noteM K p M) ∧ Cf (Fb b m mv M) x u := by
        rcases HU.out with ⟨_, a1, a2, a3⟩ | ⟨e, _⟩
        · exact ⟨a1, a2, a3⟩
        · cases e
      have hp := HW.out.fs.kept.2 _ _ hl.1
      have e1 := lsP_some hl (by omega)
      have HF : Hid (AcTo w b m mv last K M 1 A B u) := hidden (by
        unfold AcTo actK actM
        rw [e1, if_pos rfl, if_pos rfl]
        exact ⟨hf, HCB.out u hc⟩)
      have HR : Hid (actR K 1 A B = (p : Int)) := hidden (by unfold actR; rw [e1, if_pos rfl])
      clear hl hf hc hp e1 HU
      go_wp2_with fail
      go_ret
      exact ⟨by rw [HR.out]; rfl, HF⟩
    | false =>
      obtain ⟨rfl, hl, rfl⟩ : p = 0 ∧ (∀ x, K x ≠ some 0) ∧ u = x := by
        rcases HU.out with ⟨e, _⟩ | ⟨_, a1, a2, a3⟩
        · cases e
        · exact ⟨a1, a2, a3⟩
      have e1 := lsP_none hl
      have HF : Hid (AcTo w b m mv last K M 1 A B u) := hidden (by
        unfold AcTo actK actM
        rw [e1, if_pos rfl, if_pos rfl]
        exact ⟨HX.out, Cf.of_below HBX.out⟩)
      have HR : Hid (actR K 1 A B = -1) := hidden (by unfold actR; rw [e1, if_pos rfl])
      clear hl e1 HU
      go_wp2_with fail
      go_ret
      exact ⟨by rw [HR.out]; rfl, HF⟩
  have hk1 : (kd == 1) = false := by rw [beq_eq_false_iff_ne]; exact h1
  by_cases h2 : kd = 2
  · subst h2
    have HK := hidden (give_any HX.out A B)
    have HR : Hid (actR K 2 A B = giveE K A B) := hidden (act2 K M A B).1
    rw [HR.out]
    have HF : Hid (∀ u, ((giveE K A B = 0 ∧ Fl u b m mv last (setK K A B) (noteM K A M) ∧ Cf (Fb b m mv M) x u) ∨ (giveE K A B ≠ 0 ∧ u = x)) → AcTo w b m mv last K M 2 A B u) := hidden (fun u hu => by
      unfold AcTo
      rw [(act2 K M A B).2.1, (act2 K M A B).2.2]
      rcases hu with ⟨e, a1, a2⟩ | ⟨e, rfl⟩
      · rw [if_pos e, if_pos e]; exact ⟨a1, HCB.out u a2⟩
      · rw [if_neg e, if_neg e]; exact ⟨HX.out, Cf.of_below HBX.out⟩)
    generalize giveE K A B = ge at *
    go_enter Tryd.func10, Tryd.ntmps10
    go_wp2_with (go_at_call 17; refine HK.out.mono ?_; rintro e u ⟨rfl, HU⟩)
    go_ret
    exact ⟨rfl, hidden (HF.out u HU.out)⟩
  have hk2 : (kd == 2) = false := by rw [beq_eq_false_iff_ne]; exact h2
  by_cases h3 : kd = 3
  · subst h3
    have HK := hidden (release_any HX.out A)
    have HR : Hid (actR K 3 A B = ((kL K (dueF A)).length : Int)) := hidden (act3 K M A B).1
    rw [HR.out]
    have HF : Hid (∀ u, (Fl u b m mv last (relK K A) (relS (kL K (dueF A)) (K, M)).2 ∧ Cf (Fb b m mv M) x u) → AcTo w b m mv last K M 3 A B u) := hidden (fun u hu => by
      unfold AcTo
      rw [(act3 K M A B).2.1, (act3 K M A B).2.2]
      exact ⟨hu.1, HCB.out u hu.2⟩)
    generalize (kL K (dueF A)).length = ge at *
    go_enter Tryd.func10, Tryd.ntmps10
    go_wp2_with (go_at_call 18; refine HK.out.mono ?_; rintro e u ⟨rfl, HU⟩)
    go_ret
    exact ⟨rfl, hidden (HF.out u HU.out)⟩
  have hk3 : (kd == 3) = false := by rw [beq_eq_false_iff_ne]; exact h3
  have hk7 : (kd == 7) = false := by rw [beq_eq_false_iff_ne]; exact h7
  have HR : Hid (actR K kd A B = 0) := hidden (by unfold actR; rw [if_neg h1, if_neg h2, if_neg h3])
  rw [HR.out]
  have HF := hidden (AcTo.none (A := A) (B := B) HW.out HBX.out h1 h2 h3)
  clear h1 h2 h3 h7
  go_enter Tryd.func10, Tryd.ntmps10
  go_wp2_with fail
  go_ret
  exact ⟨rfl, HF⟩
end Go.Proofs.YtedgpcckbdnijaaDoor

/- The law's act at a Mark; Back at a mark that is none. -/

namespace Go.Proofs.YtedgpcckbdnijaaDoor
open Go.RowKit Go.Maps Go.Shelf

def MkTo (w : World) (b m : Nat) (mv : Value) (last : Int) (K : Int → Option Int) (M : List Mq) (r : Nat) (u : World) : Prop := ∃ mv' bq, Fl u b m mv' (last + 1) K (M.drop r ++ [⟨last + 1, bq, fun _ => none⟩]) ∧ Cf (Fb b m mv M) w u ∧ w.heap.size ≤ bq ∧ (∀ k, mv'.ownBlock = some k → mv.ownBlock = some k ∨ w.heap.size ≤ k)
set_option maxRecDepth 100000 in
set_option maxHeartbeats 2000000 in
theorem act_mark {w : World} {b m : Nat} {mv : Value} {last : Int} {K : Int → Option Int} {M : List Mq} (h : Fl w b m mv last K M) (A B : Int) (hn : Nums last M) (hl : last < 4611686018427387904) (r : Nat) (hr : r ≤ M.length) (ho : ∀ (i : Nat) (q : Mq), i < r → M[i]? = some q → 16 ≤ last + 1 - q.n) (hy : ∀ (i : Nat) (q : Mq), r ≤ i → M[i]? = some q → last + 1 - q.n < 16) (hM : M.length ≤ 1000) :
    Calls Tryd.prog 10 #[pB b, .agg #[.int .i64 7, .int .i64 A, .int .i64 B]] w fun e u => e = .returned (.int .i64 (last + 1)) ∧ Hid (MkTo w b m mv last K M r u) := by
  obtain ⟨x, hx⟩ : ∃ x, w.alloc (.cells #[.int .i64 7, .int .i64 A, .int .i64 B] 38) = x := ⟨_, rfl⟩
  have hbx : Below w.heap.size w x := by rw [← hx]; exact bl_al (Below.refl _ _) (Nat.le_refl _) _
  have hob : x.heap[w.heap.size]? = some (.cells #[.int .i64 7, .int .i64 A, .int .i64 B] 38 (0, 0)) := by rw [← hx]; exact al_row _ _
  have k0 : x.cell? ⟨w.heap.size, 0, none⟩ = some (.int .i64 7) := by unfold World.cell?; rw [hob]; rfl
  have HK := hidden (mark_any (h.on hbx) hn hl r hr ho hy hM)
  have HF : Hid (∀ u, (∃ mv' bq, Fl u b m mv' (last + 1) K (M.drop r ++ [⟨last + 1, bq, fun _ => none⟩]) ∧ Cf (Fb b m mv M) x u ∧ x.heap.size ≤ bq ∧ (∀ k, mv'.ownBlock = some k → mv.ownBlock = some k ∨ x.heap.size ≤ k)) → MkTo w b m mv last K M r u) := hidden (fun u hu => by
    obtain ⟨mv', bq, a1, a2, a3, a4⟩ := hu
    exact ⟨mv', bq, a1, (Cf.of_below hbx).go a2, Nat.le_trans hbx.size a3, fun k hk => (a4 k hk).imp id (fun e => Nat.le_trans hbx.size e)⟩)
  clear h hbx hob hn ho hy
  go_enter Tryd.func10, Tryd.ntmps10
  go_wp2_with (go_at_call 11; refine HK.out.mono ?_; rintro e u ⟨rfl, HU⟩)
  go_ret
  exact ⟨rfl, hidden (HF.out u HU.out)⟩
attribute [local go_sem] Oper.semAt_some
set_option maxRecDepth 100000 in
set_option maxHeartbeats 2000000 in
theorem back_no {w : World} {b m : Nat} {mv : Value} {last : Int} {K : Int → Option Int} {M : List Mq} (h : Fl w b m mv last K M) (z : Int) (hE : fdI (fun q' => q'.n == z) M = -1) :
    Calls Tryd.prog 12 #[pB b, .int .i64 z] w fun e u => e = .returned (.int .i64 1) ∧ Hid (Below w.heap.size w u) := by
  obtain ⟨x, hx⟩ : ∃ x, w.alloc (.cells #[pB b] 25) = x := ⟨_, rfl⟩
  have hbx : Below w.heap.size w x := by rw [← hx]; exact bl_al (Below.refl _ _) (Nat.le_refl _) _
  have hcx : x.cell? ⟨w.heap.size, 0, none⟩ = some (pB b) := by rw [← hx]; simp
  have HBX := hidden hbx
  have HFD := hidden (find_any (h.on hbx) z)
  rw [hE] at HFD
  have e0 : decide (0 ≤ (-1 : Int)) = false := by decide
  rw [e0] at HFD
  clear h hE hbx e0
  refine (callsIn_wide (n := 10)).1 ?_
  refine callsIn_of_wp_marks Tryd.func12 rfl trivial ?_ rfl
  simp only [Tryd.ntmps12, List.size_toArray, List.length_cons, List.length_nil, Nat.reduceAdd, Nat.reduceSub, Array.replicate_succ, Array.replicate_zero, List.push_toArray, List.append_toArray, List.nil_append, List.cons_append]
  gi_wp2_with (refine ⟨trivial, ?_⟩; gi_at_call 39; refine (callsIn_wide.2 HFD.out).mono ?_; rintro e w2 ⟨rfl, HB2⟩)
  exact ⟨_, results_tmp rfl _ _ _, rfl, hidden (HBX.out.trans (HB2.out.mono HBX.out.size))⟩
end Go.Proofs.YtedgpcckbdnijaaDoor
