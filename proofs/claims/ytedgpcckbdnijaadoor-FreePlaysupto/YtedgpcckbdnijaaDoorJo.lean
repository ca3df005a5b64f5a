/- From a row's readings to what the walks of layer 10 ask: Ops that came in. -/
import Derived.Test.YtedgpcckbdnijaaDoorLaidT
import Derived.Test.YtedgpcckbdnijaaDoorVi
import Derived.ChangeArms
import Derived.DataElems
import Derived.SizedLaws
import Derived.KernelRfl
import Derived.WideShapes
namespace Go.Proofs.YtedgpcckbdnijaaDoor
open Go.ChangeShapes Go.WideShapes Go.ChangeAt Go.RowKit

set_option maxRecDepth 100000 in
theorem cellsOp10 : Tryd.prog.cellsOf 38 = 3 := by kernel_rfl
set_option maxRecDepth 100000 in
theorem cellsI10 : Tryd.prog.cellsOf 3 = 1 := by kernel_rfl
set_option maxRecDepth 100000 in
theorem bytesOp10 : Tryd.prog.bytesOf 38 = 24 := by kernel_rfl
set_option maxRecDepth 100000 in
theorem open_ops10 {H : Type} {enc : TypeId × Value → H} {W : World} {sp : Nat → Bool} {held : Bool} {fuel : Nat} {cs : List Value} {d : DataW H} {p : List MemPlace} (hf : DataW.trod enc Tryd.prog W 0 sp held fuel 23 cs = some (d, p)) (hw : ∀ n ∈ d.weights Tryd.prog 23, n ≤ reachBytes) :
    ∃ a n c l, cs = [.slice a n c] ∧ SlO W a n l := by
  rcases DataW.trod_slice Tryd.underlying23 hf with ⟨hcs, hx⟩ | ⟨x, len, cap, elems, rest, m, hm, hcs, hx, _, hl, hmx, hlen, hel, hsp, hns⟩
  · exact ⟨none, 0, 0, [], hcs, ⟨rfl, by omega, fun i hi => by omega, .inl rfl⟩⟩
  · obtain rfl : d = .slice (elems.map (·.1)) (rest.map (·.1)) := congrArg Prod.fst hx
    have hw0 := hw ((elems.length + rest.length) * 24) (by simp [DataW.weights, Tryd.underlying23, bytesOp10])
    have hb : len ≤ 5864062014806 := by unfold reachBytes at hw0; omega
    have each : ∀ i, i < len → ∃ K A B, (-9223372036854775808 ≤ A ∧ A ≤ 9223372036854775807) ∧ (-9223372036854775808 ≤ B ∧ B ≤ 9223372036854775807) ∧ W.cell? (x.add (i * 3)) = some (.int .i64 K) ∧ W.cell? (x.add (i * 3 + 1)) = some (.int .i64 A) ∧ W.cell? (x.add (i * 3 + 2)) = some (.int .i64 B) := by
      intro i hi
      have h1 := hel i hi
      have hy : elems[i]? = some elems[i] := List.getElem?_eq_getElem (by omega)
      rw [hy, cellsOp10, Option.bind_eq_some_iff] at h1
      obtain ⟨cs', hc1, hc2⟩ := h1
      obtain ⟨xs, m', hm', hxe, hl', hxl, hfs⟩ := DataW.trod_struct Tryd.underlying38 hc2
      obtain ⟨_, hcl, hcc⟩ := World.cells?_some hc1
      match cs', hcl with
      | [v0, v1, v2], _ =>
        match xs, hxl with
        | [y0, y1, y2], _ =>
          have h0 : DataW.trod enc Tryd.prog W 0 sp held m' 3 (([v0, v1, v2].drop 0).take (Tryd.prog.cellsOf 3)) = some y0 := hfs 0 _ rfl
          have h1 : DataW.trod enc Tryd.prog W 0 sp held m' 3 (([v0, v1, v2].drop 1).take (Tryd.prog.cellsOf 3)) = some y1 := hfs 1 _ rfl
          have h2 : DataW.trod enc Tryd.prog W 0 sp held m' 3 (([v0, v1, v2].drop 2).take (Tryd.prog.cellsOf 3)) = some y2 := hfs 2 _ rfl
          rw [cellsI10] at h0 h1 h2
          have f0 : DataW.trod enc Tryd.prog W 0 sp held m' 3 [v0] = some y0 := h0
          have f1 : DataW.trod enc Tryd.prog W 0 sp held m' 3 [v1] = some y1 := h1
          have f2 : DataW.trod enc Tryd.prog W 0 sp held m' 3 [v2] = some y2 := h2
          clear h0 h1 h2
          obtain ⟨K, g0, _, w0⟩ := DataW.trod_int Tryd.underlying3 f0
          obtain ⟨A, g1, _, w1⟩ := DataW.trod_int Tryd.underlying3 f1
          obtain ⟨B, g2, _, w2⟩ := DataW.trod_int Tryd.underlying3 f2
          cases g0
          cases g1
          cases g2
          refine ⟨K, A, B, bounds_i64 w1, bounds_i64 w2, ?_, ?_, ?_⟩
          · simpa [Addr.add_add] using hcc 0 (by omega)
          · simpa [Addr.add_add] using hcc 1 (by omega)
          · simpa [Addr.add_add] using hcc 2 (by omega)
    by_cases h0 : len = 0
    · subst h0
      exact ⟨some x, 0, cap, [], hcs, ⟨rfl, by omega, fun i hi => by omega, .inl rfl⟩⟩
    · obtain ⟨b, off, spot⟩ := x
      obtain ⟨_, _, _, _, _, hc, _⟩ := each 0 (by omega)
      have hspot : spot = none := by simpa [Addr.add] using World.cell?_spot hc
      subst hspot
      have hbl' : b < W.heap.size := by simpa [Addr.add] using World.block_lt_of_cell? W _ hc
      have all : ∀ n, n ≤ len → ∃ l : List (Int × Int × Int), l.length = n ∧ ∀ i, i < n → ((-9223372036854775808 ≤ (l.getD i (0, 0, 0)).2.1 ∧ (l.getD i (0, 0, 0)).2.1 ≤ 9223372036854775807) ∧ (-9223372036854775808 ≤ (l.getD i (0, 0, 0)).2.2 ∧ (l.getD i (0, 0, 0)).2.2 ≤ 9223372036854775807)) ∧ W.cell? ⟨b, off + i * 3, none⟩ = some (.int .i64 (l.getD i (0, 0, 0)).1) ∧ W.cell? ⟨b, off + i * 3 + 1, none⟩ = some (.int .i64 (l.getD i (0, 0, 0)).2.1) ∧ W.cell? ⟨b, off + i * 3 + 2, none⟩ = some (.int .i64 (l.getD i (0, 0, 0)).2.2) := by
        intro n
        induction n with
        | zero => intro _; exact ⟨[], rfl, fun i hi => by omega⟩
        | succ n ih =>
          intro hn
          obtain ⟨l, hl1, hl2⟩ := ih (by omega)
          obtain ⟨K, A, B, hA, hB, c0, c1, c2⟩ := each n (by omega)
          refine ⟨l ++ [(K, A, B)], by simp [hl1], fun i hi => ?_⟩
          by_cases e : i < n
          · have hg : (l ++ [(K, A, B)]).getD i (0, 0, 0) = l.getD i (0, 0, 0) := by
              simp only [List.getD]
              rw [List.getElem?_append_left (by omega)]
            rw [hg]
            exact hl2 i e
          · obtain rfl : i = n := by omega
            have hg : (l ++ [(K, A, B)]).getD i (0, 0, 0) = (K, A, B) := by
              simp only [List.getD]
              rw [List.getElem?_append_right (by omega), hl1]
              simp
            rw [hg]
            rw [Addr.add_lit] at c0 c1 c2
            simp only [← Nat.add_assoc] at c0 c1 c2
            exact ⟨⟨hA, hB⟩, c0, c1, c2⟩
      obtain ⟨l, hl1, hl2⟩ := all len (Nat.le_refl _)
      exact ⟨some ⟨b, off, none⟩, len, cap, l, hcs, ⟨hl1, hb, fun i hi => (hl2 i hi).1, .inr ⟨b, off, rfl, hbl', fun i hi => (hl2 i hi).2⟩⟩⟩
end Go.Proofs.YtedgpcckbdnijaaDoor

/- How many Ops came in, by the bulk of what is read. -/

namespace Go.Proofs.YtedgpcckbdnijaaDoor
open Go.ChangeShapes Go.WideShapes Go.ChangeAt Go.RowKit

set_option maxRecDepth 100000 in
theorem bulk_pos {H : Type} : ∀ d : DataW H, 1 ≤ Rows.uptoBulk d
  | .lit (.string _) => by simp [Rows.uptoBulk]
  | .lit (.int _ _) => by simp [Rows.uptoBulk]
  | .lit (.bool _) => by simp [Rows.uptoBulk]
  | .lit _ => by unfold Rows.uptoBulk; split <;> simp_all
  | .nil => by simp [Rows.uptoBulk]
  | .ptr _ => by simp [Rows.uptoBulk]
  | .slice _ _ => by simp [Rows.uptoBulk]
  | .agg _ => by simp [Rows.uptoBulk]
  | .iface _ _ => by simp [Rows.uptoBulk]
  | .map _ => by simp [Rows.uptoBulk]
  | .held _ => by simp [Rows.uptoBulk]
set_option maxRecDepth 100000 in
theorem bulk_all {H : Type} (c : Nat) : ∀ l : List (DataW H), (∀ x ∈ l, c ≤ Rows.uptoBulk x) → c * l.length ≤ Rows.uptoBulkAll l
  | [], _ => Nat.zero_le _
  | d :: r, h => by
    have h1 := h d (by simp)
    have h2 := bulk_all c r (fun x hx => h x (by simp [hx]))
    simp only [Rows.uptoBulkAll, List.length_cons, Nat.mul_add]
    omega
set_option maxRecDepth 100000 in
theorem open_opsU {H : Type} {enc : TypeId × Value → H} {W : World} {sp : Nat → Bool} {held : Bool} {fuel : Nat} {cs : List Value} {d : DataW H} {p : List MemPlace} (hf : DataW.trod enc Tryd.prog W 0 sp held fuel 23 cs = some (d, p)) :
    ∃ a n c, cs = [.slice a n c] ∧ 4 * n ≤ Rows.uptoBulk d := by
  rcases DataW.trod_slice Tryd.underlying23 hf with ⟨hcs, hx⟩ | ⟨x, len, cap, elems, rest, m, hm, hcs, hx, _, hl, hmx, hlen, hel, hsp, hns⟩
  · exact ⟨none, 0, 0, hcs, Nat.zero_le _⟩
  · obtain rfl : d = .slice (elems.map (·.1)) (rest.map (·.1)) := congrArg Prod.fst hx
    refine ⟨some x, len, cap, hcs, ?_⟩
    have h1 := bulk_all 4 (elems.map (·.1)) (fun y hy => by
      obtain ⟨e, he, rfl⟩ := List.mem_map.1 hy
      obtain ⟨i, hi⟩ := List.getElem?_of_mem he
      have hil := (List.getElem?_eq_some_iff.1 hi).1
      have h1 := hel i (by omega)
      rw [hi, cellsOp10, Option.bind_eq_some_iff] at h1
      obtain ⟨cs', hc1, hc2⟩ := h1
      obtain ⟨xs, m', hm', hxe, hl', hxl, hfs⟩ := DataW.trod_struct Tryd.underlying38 hc2
      have e1 : e.1 = .agg (xs.map (·.1)) := congrArg Prod.fst hxe
      rw [e1]
      have hx3 : xs.length = 3 := hxl
      have h2 := bulk_all 1 (xs.map (·.1)) (fun y _ => bulk_pos y)
      rw [List.length_map, hx3] at h2
      simp only [Rows.uptoBulk]
      omega)
    rw [List.length_map] at h1
    simp only [Rows.uptoBulk]
    have : elems.length = len := by omega
    omega
end Go.Proofs.YtedgpcckbdnijaaDoor

/- From a row's readings to what the walks of layer 10 ask: a slice of ints that came in. -/

namespace Go.Proofs.YtedgpcckbdnijaaDoor
open Go.ChangeShapes Go.WideShapes Go.ChangeAt Go.RowKit

set_option maxRecDepth 100000 in
theorem cellsIz : Tryd.prog.cellsOf 3 = 1 := by kernel_rfl
set_option maxRecDepth 100000 in
theorem bytesIz : Tryd.prog.bytesOf 3 = 8 := by kernel_rfl
set_option maxRecDepth 100000 in
theorem open_slz {H : Type} {enc : TypeId × Value → H} {W : World} {base : Nat} {sp : Nat → Bool} {held : Bool} {v : Value} {d : DataW H} {p : List MemPlace} (hok : Value.okWide Tryd.prog W .any base 22 v)
    (h : DataW.Trod enc Tryd.prog W 0 sp held 22 v d p) (hsz : ∀ elems spare, d = .slice elems spare → (elems.length + spare.length) * Tryd.prog.bytesOf 3 ≤ reachBytes) :
    ∃ a n c l, v = .slice a n c ∧ SlZ W a n c l ∧ n ≤ 17592186044416 := by
  obtain ⟨a, len, cap, rfl⟩ := okWide_slice Tryd.underlying22 hok
  obtain ⟨fuel, hf⟩ := h
  rcases open_ints Tryd.underlying22 Tryd.underlying3 cellsIz hf with ⟨hcs, hx⟩ | ⟨x, l, c, zs, hcs, _, hl, hm, hz, hx, hcell, hwz⟩
  · simp [Value.cells] at hcs
    obtain ⟨rfl, rfl, rfl⟩ := hcs
    exact ⟨none, 0, 0, [], rfl, ⟨rfl, by omega, (fun x hx => by cases hx), Nat.le_refl _, .inl rfl⟩, by omega⟩
  · simp [Value.cells] at hcs
    obtain ⟨rfl, rfl, rfl⟩ := hcs
    obtain rfl : d = .slice (lits .i64 (zs.take len)) (lits .i64 (zs.drop len)) := congrArg Prod.fst hx
    have hzl : len ≤ zs.length := by rw [hz]; split <;> omega
    have h1 := hsz _ _ rfl
    rw [bytesIz] at h1
    simp only [lits, List.length_map, List.length_take, List.length_drop, reachBytes] at h1
    have hb : len ≤ 17592186044416 := by omega
    refine ⟨some x, len, cap, zs.take len, rfl, ⟨by simp; omega, by omega, fun y hy => bounds_i64 (hwz y (List.mem_of_mem_take hy)), hl, ?_⟩, hb⟩
    by_cases h0 : len = 0
    · exact .inl h0
    · obtain ⟨b, off, spot⟩ := x
      have hc := hcell 0 (by omega)
      have hspot : spot = none := by simpa [Addr.add] using World.cell?_spot hc
      subst hspot
      refine .inr ⟨b, off, rfl, World.block_lt_of_cell? W _ (by simpa [Addr.add] using hc), fun i hi => ?_⟩
      have h2 := hcell i (by omega)
      rw [Addr.add_lit] at h2
      rw [h2]
      simp [List.getD, hi]
end Go.Proofs.YtedgpcckbdnijaaDoor
