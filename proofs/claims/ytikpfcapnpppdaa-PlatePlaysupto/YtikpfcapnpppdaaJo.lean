/- From a row's readings to what the walks ask: a slice of bytes that came in (a seat without a card). -/
import Derived.Test.YtikpfcapnpppdaaRows
import Derived.Test.YtikpfcapnpppdaaBase
import Derived.WalkKit
import Derived.ProofKit
import Derived.OpenShut
import Derived.Deep.DeepHandedRow
import Derived.Lay
import Derived.SizedLaws
import Derived.Test.YtikpfcapnpppdaaPlatePlaysW
import Derived.ChangeArms
import Derived.DataElems
import Derived.WideShapes
namespace Go.Proofs.Ytikpfcapnpppdaa
open Go.ChangeShapes Go.WideShapes Go.ChangeAt Go.RowKit

set_option maxRecDepth 100000 in
theorem own : ownKnob Try.prog.godebug = none := by kernel_rfl
set_option maxRecDepth 100000 in
theorem laidOut : laidOutB Try.prog = true := by kernel_rfl
set_option maxRecDepth 100000 in
theorem bytesU8 : Try.prog.bytesOf 5 = 1 := by kernel_rfl
set_option maxRecDepth 100000 in
theorem cells5 : Try.prog.cellsOf 5 = 1 := by kernel_rfl

set_option maxRecDepth 100000 in
theorem bulk_lits {H : Type} (k : IntKind) (zs : List Int) : Rows.uptoBulkAll (lits (H := H) k zs) = zs.length := by
  induction zs with
  | nil => rfl
  | cons z zs ih =>
    show Rows.uptoBulkAll (DataW.lit (.int k z) :: lits k zs) = _
    simp only [Rows.uptoBulkAll, Rows.uptoBulk, ih, List.length_cons]
    omega

set_option maxRecDepth 100000 in
theorem open_bytes {H : Type} {enc : TypeId × Value → H} {W : World} {base : Nat} {sp : Nat → Bool} {held : Bool} {v : Value} {d : DataW H} {p : List MemPlace} (hok : Value.okWide Try.prog W .any base 35 v)
    (h : DataW.Trod enc Try.prog W 0 sp held 35 v d p) (hsz : ∀ elems spare, d = .slice elems spare → (elems.length + spare.length) * Try.prog.bytesOf 5 ≤ reachBytes) :
    ∃ a n c l, v = .slice a n c ∧ Sl W a n c l ∧ n ≤ 140737488351232 ∧ n + 1 ≤ Rows.uptoBulk d := by
  obtain ⟨a, len, cap, rfl⟩ := okWide_slice Try.underlying35 hok
  obtain ⟨fuel, hf⟩ := h
  rcases open_ints Try.underlying35 Try.underlying5 cells5 hf with ⟨hcs, hx⟩ | ⟨x, l, c, zs, hcs, _, hl, hm, hz, hx, hcell, hwz⟩
  · simp [Value.cells] at hcs
    obtain ⟨rfl, rfl, rfl⟩ := hcs
    obtain rfl : d = .nil := congrArg Prod.fst hx
    exact ⟨none, 0, 0, [], rfl, ⟨rfl, Nat.le_refl _, by omega, Wf.nil, fun _ => rfl, .inl rfl⟩, by omega, by simp [Rows.uptoBulk]⟩
  · simp [Value.cells] at hcs
    obtain ⟨rfl, rfl, rfl⟩ := hcs
    obtain rfl : d = .slice (lits .u8 (zs.take len)) (lits .u8 (zs.drop len)) := congrArg Prod.fst hx
    have hzl : len ≤ zs.length := by rw [hz]; split <;> omega
    have h1 := hsz _ _ rfl
    rw [bytesU8] at h1
    simp only [lits, List.length_map, List.length_take, List.length_drop, reachBytes] at h1
    have hb : len ≤ 140737488351232 := by omega
    refine ⟨some x, len, cap, zs.take len, rfl, ⟨by simp; omega, hl, by omega, fun y hy => bounds_u8 (hwz y (List.mem_of_mem_take hy)), (by intro h; cases h), ?_⟩, hb, ?_⟩
    · by_cases h0 : len = 0
      · exact .inl h0
      · obtain ⟨b, off, spot⟩ := x
        have hc := hcell 0 (by omega)
        have hspot : spot = none := by simpa [Addr.add] using World.cell?_spot hc
        subst hspot
        refine .inr ⟨b, off, rfl, World.block_lt_of_cell? W _ (by simpa [Addr.add] using hc), fun i hi => ?_⟩
        have h2 := hcell i (by omega)
        rw [Addr.add_lit] at h2
        rw [h2]
        simp [List.getD, hi]
    · simp only [Rows.uptoBulk, bulk_lits, List.length_take]
      omega
end Go.Proofs.Ytikpfcapnpppdaa

/- From a row's readings to what the walk of PlatePlays asks: Ops that came in, whole. -/

namespace Go.Proofs.Ytikpfcapnpppdaa
open Go.ChangeShapes Go.WideShapes Go.ChangeAt Go.RowKit

set_option maxRecDepth 100000 in
theorem cellsOp : Try.prog.cellsOf 40 = 8 := by kernel_rfl
set_option maxRecDepth 100000 in
theorem cellsFall : Try.prog.cellsOf 38 = 3 := by kernel_rfl
set_option maxRecDepth 100000 in
theorem cellsI : Try.prog.cellsOf 3 = 1 := by kernel_rfl
set_option maxRecDepth 100000 in
theorem cellsSI : Try.prog.cellsOf 36 = 1 := by kernel_rfl
set_option maxRecDepth 100000 in
theorem cellsSB : Try.prog.cellsOf 35 = 1 := by kernel_rfl
set_option maxRecDepth 100000 in
theorem bytesOp : Try.prog.bytesOf 40 = 96 := by kernel_rfl
set_option maxRecDepth 100000 in
theorem bytesI : Try.prog.bytesOf 3 = 8 := by kernel_rfl

set_option maxRecDepth 100000 in
theorem weights_part {H : Type} {t : TypeId} {d : DataW H} {n : Nat} : ∀ {ds : List (DataW H)}, d ∈ ds → n ∈ d.weights Try.prog t → n ∈ DataW.weightsAll Try.prog t ds
  | [], h, _ => by cases h
  | x :: ds, h, hn => by
    simp only [DataW.weightsAll, List.mem_append]
    rcases List.mem_cons.1 h with rfl | h
    · exact .inl hn
    · exact .inr (weights_part h hn)
set_option maxRecDepth 100000 in
theorem bulk_pos {H : Type} : ∀ d : DataW H, 1 ≤ Rows.uptoBulk d
  | .lit (.string _) => by simp [Rows.uptoBulk]
  | .lit (.int _ _) => by simp [Rows.uptoBulk]
  | .lit (.bool _) => by simp [Rows.uptoBulk]
  | .lit _ => by unfold Rows.uptoBulk; split <;> simp_all
  | .nil => by simp [Rows.uptoBulk]
  | .ptr _ => by simp [Rows.uptoBulk]
  | .slice _ _ => by simp [Rows.uptoBulk]
  | .agg _ => by simp [Rows.uptoBulk]
  | .iface _ _ => by simp [Rows.uptoBulk]
  | .map _ => by simp [Rows.uptoBulk]
  | .held _ => by simp [Rows.uptoBulk]
set_option maxRecDepth 100000 in
theorem bulk_all {H : Type} (c : Nat) : ∀ l : List (DataW H), (∀ x ∈ l, c ≤ Rows.uptoBulk x) → c * l.length ≤ Rows.uptoBulkAll l
  | [], _ => Nat.zero_le _
  | d :: r, h => by
    have h1 := h d (by simp)
    have h2 := bulk_all c r (fun x hx => h x (by simp [hx]))
    simp only [Rows.uptoBulkAll, List.length_cons, Nat.mul_add]
    omega

set_option maxRecDepth 100000 in
theorem open_keep {H : Type} {enc : TypeId × Value → H} {W : World} {sp : Nat → Bool} {held : Bool} {fuel : Nat} {v : Value} {d : DataW H} {p : List MemPlace} (hf : DataW.trod enc Try.prog W 0 sp held fuel 36 [v] = some (d, p)) (hw : ∀ n ∈ d.weights Try.prog 36, n ≤ reachBytes) :
    ∃ ko kn kc ks, v = .slice ko kn kc ∧ Ks W ko kn ks ∧ kn ≤ 17592186044416 ∧ (ko = none → kn = 0 ∧ kc = 0) := by
  rcases open_ints Try.underlying36 Try.underlying3 cellsI hf with ⟨hcs, hx⟩ | ⟨x, len, cap, zs, hcs, _, hl, hm, hz, hx, hcell, hwz⟩
  · injection hcs with hcs
    exact ⟨none, 0, 0, [], hcs, ks_nil _, by omega, fun _ => ⟨rfl, rfl⟩⟩
  · injection hcs with hcs
    have hzl : len ≤ zs.length := by rw [hz]; split <;> omega
    obtain rfl : d = .slice (lits .i64 (zs.take len)) (lits .i64 (zs.drop len)) := congrArg Prod.fst hx
    have h1 := hw (((lits (H := H) .i64 (zs.take len)).length + (lits (H := H) .i64 (zs.drop len)).length) * 8) (by simp [DataW.weights, Try.underlying36, bytesI])
    simp only [lits, List.length_map, List.length_take, List.length_drop, reachBytes] at h1
    refine ⟨some x, len, cap, zs.take len, hcs, ⟨by simp; omega, by omega, ?_⟩, by omega, (by intro h; cases h)⟩
    by_cases h0 : len = 0
    · exact .inl h0
    · obtain ⟨b, off, spot⟩ := x
      have hc := hcell 0 (by omega)
      have hspot : spot = none := by simpa [Addr.add] using World.cell?_spot hc
      subst hspot
      refine .inr ⟨b, off, rfl, World.block_lt_of_cell? W _ (by simpa [Addr.add] using hc), fun i hi => ?_⟩
      have h2 := hcell i (by omega)
      rw [Addr.add_lit] at h2
      rw [h2]
      simp [List.getD, hi]
set_option maxRecDepth 100000 in
theorem open_data {H : Type} {enc : TypeId × Value → H} {W : World} {sp : Nat → Bool} {held : Bool} {fuel : Nat} {v : Value} {d : DataW H} {p : List MemPlace} (hf : DataW.trod enc Try.prog W 0 sp held fuel 35 [v] = some (d, p)) (hw : ∀ n ∈ d.weights Try.prog 35, n ≤ reachBytes) :
    ∃ da dn dc data, v = .slice da dn dc ∧ Sl W da dn dc data := by
  rcases open_ints Try.underlying35 Try.underlying5 cells5 hf with ⟨hcs, hx⟩ | ⟨x, len, cap, zs, hcs, _, hl, hm, hz, hx, hcell, hwz⟩
  · injection hcs with hcs
    exact ⟨none, 0, 0, [], hcs, sl_nil _⟩
  · injection hcs with hcs
    have hzl : len ≤ zs.length := by rw [hz]; split <;> omega
    obtain rfl : d = .slice (lits .u8 (zs.take len)) (lits .u8 (zs.drop len)) := congrArg Prod.fst hx
    have h1 := hw (((lits (H := H) .u8 (zs.take len)).length + (lits (H := H) .u8 (zs.drop len)).length) * 1) (by simp [DataW.weights, Try.underlying35, bytesU8])
    simp only [lits, List.length_map, List.length_take, List.length_drop, reachBytes] at h1
    refine ⟨some x, len, cap, zs.take len, hcs, ⟨by simp; omega, hl, by omega, fun y hy => bounds_u8 (hwz y (List.mem_of_mem_take hy)), (by intro h; cases h), ?_⟩⟩
    by_cases h0 : len = 0
    · exact .inl h0
    · obtain ⟨b, off, spot⟩ := x
      have hc := hcell 0 (by omega)
      have hspot : spot = none := by simpa [Addr.add] using World.cell?_spot hc
      subst hspot
      refine .inr ⟨b, off, rfl, World.block_lt_of_cell? W _ (by simpa [Addr.add] using hc), fun i hi => ?_⟩
      have h2 := hcell i (by omega)
      rw [Addr.add_lit] at h2
      rw [h2]
      simp [List.getD, hi]

set_option maxRecDepth 100000 in
theorem open_opsP {H : Type} {enc : TypeId × Value → H} {W : World} {sp : Nat → Bool} {held : Bool} {fuel : Nat} {cs : List Value} {d : DataW H} {p : List MemPlace} (hf : DataW.trod enc Try.prog W 0 sp held fuel 22 cs = some (d, p)) (hw : ∀ n ∈ d.weights Try.prog 22, n ≤ reachBytes) (hbk : Rows.uptoBulk d ≤ 1048576) :
    ∃ a n c, cs = [.slice a n c] ∧ SlP_ W a n := by
  rcases DataW.trod_slice Try.underlying22 hf with ⟨hcs, hx⟩ | ⟨x, len, cap, elems, rest, m, hm, hcs, hx, _, hl, hmx, hlen, hel, hsp, hns⟩
  · exact ⟨none, 0, 0, hcs, ⟨by omega, .inl rfl⟩⟩
  · obtain rfl : d = .slice (elems.map (·.1)) (rest.map (·.1)) := congrArg Prod.fst hx
    have hb : len ≤ 400000 := by
      have h1 := bulk_all 4 (elems.map (·.1)) (fun y hy => by
        obtain ⟨e, he, rfl⟩ := List.mem_map.1 hy
        obtain ⟨i, hi⟩ := List.getElem?_of_mem he
        have hil := (List.getElem?_eq_some_iff.1 hi).1
        have h1 := hel i (by omega)
        rw [hi, cellsOp, Option.bind_eq_some_iff] at h1
        obtain ⟨cs', hc1, hc2⟩ := h1
        obtain ⟨xs, m', hm', hxe, hl', hxl, hfs⟩ := DataW.trod_struct Try.underlying40 hc2
        have e1 : e.1 = .agg (xs.map (·.1)) := congrArg Prod.fst hxe
        rw [e1]
        have hx3 : xs.length = 6 := hxl
        have h2 := bulk_all 1 (xs.map (·.1)) (fun y _ => bulk_pos y)
        rw [List.length_map, hx3] at h2
        simp only [Rows.uptoBulk]
        omega)
      rw [List.length_map] at h1
      simp only [Rows.uptoBulk] at hbk
      have : elems.length = len := by omega
      omega
    have each : ∀ i, i < len → ∃ (kind on n by_ : Int) (da : Option Addr) (dn dc : Nat) (ka : Option Addr) (kn kc : Nat) (tn ta : Int) (data ks : List Int),
        W.cell? (x.add (i * 8)) = some (.int .i64 kind) ∧ W.cell? (x.add (i * 8 + 1)) = some (.int .i64 on) ∧ W.cell? (x.add (i * 8 + 2)) = some (.int .i64 n) ∧ W.cell? (x.add (i * 8 + 3)) = some (.int .u8 by_) ∧ W.cell? (x.add (i * 8 + 4)) = some (.slice da dn dc) ∧ W.cell? (x.add (i * 8 + 5)) = some (.slice ka kn kc) ∧ W.cell? (x.add (i * 8 + 6)) = some (.int .i64 tn) ∧ W.cell? (x.add (i * 8 + 7)) = some (.int .i64 ta) ∧
        (-9223372036854775808 ≤ n ∧ n ≤ 9223372036854775807) ∧ (0 ≤ by_ ∧ by_ ≤ 255) ∧ Sl W da dn dc data ∧ Ks W ka kn ks ∧ kn ≤ 17592186044416 ∧ (ka = none → kn = 0 ∧ kc = 0) := by
      intro i hi
      have h1 := hel i hi
      have hy : elems[i]? = some elems[i] := List.getElem?_eq_getElem (by omega)
      rw [hy, cellsOp, Option.bind_eq_some_iff] at h1
      obtain ⟨cs', hc1, hc2⟩ := h1
      have hmem : elems[i].1 ∈ elems.map (·.1) := List.mem_map.2 ⟨elems[i], List.getElem_mem _, rfl⟩
      have hwe : ∀ n ∈ elems[i].1.weights Try.prog 40, n ≤ reachBytes := fun n hn => hw n (by
        simp only [DataW.weights, Try.underlying22, List.mem_cons, List.mem_append]
        exact .inr (.inl (weights_part hmem hn)))
      obtain ⟨xs, m', hm', hxe, hl', hxl, hfs⟩ := DataW.trod_struct Try.underlying40 hc2
      obtain ⟨_, hcl, hcc⟩ := World.cells?_some hc1
      match cs', hcl with
      | [v0, v1, v2, v3, v4, v5, v6, v7], _ =>
        match xs, hxl with
        | [y0, y1, y2, y3, y4, y5], _ =>
          have h0 : DataW.trod enc Try.prog W 0 sp held m' 3 (([v0, v1, v2, v3, v4, v5, v6, v7].drop 0).take (Try.prog.cellsOf 3)) = some y0 := hfs 0 _ rfl
          have h1 : DataW.trod enc Try.prog W 0 sp held m' 3 (([v0, v1, v2, v3, v4, v5, v6, v7].drop 1).take (Try.prog.cellsOf 3)) = some y1 := hfs 1 _ rfl
          have h2 : DataW.trod enc Try.prog W 0 sp held m' 3 (([v0, v1, v2, v3, v4, v5, v6, v7].drop 2).take (Try.prog.cellsOf 3)) = some y2 := hfs 2 _ rfl
          have h3 : DataW.trod enc Try.prog W 0 sp held m' 5 (([v0, v1, v2, v3, v4, v5, v6, v7].drop 3).take (Try.prog.cellsOf 5)) = some y3 := hfs 3 _ rfl
          have h4 : DataW.trod enc Try.prog W 0 sp held m' 35 (([v0, v1, v2, v3, v4, v5, v6, v7].drop 4).take (Try.prog.cellsOf 35)) = some y4 := hfs 4 _ rfl
          have h5 : DataW.trod enc Try.prog W 0 sp held m' 38 (([v0, v1, v2, v3, v4, v5, v6, v7].drop 5).take (Try.prog.cellsOf 38)) = some y5 := hfs 5 _ rfl
          rw [cellsI] at h0 h1 h2
          rw [cells5] at h3
          rw [cellsSB] at h4
          rw [cellsFall] at h5
          have f0 : DataW.trod enc Try.prog W 0 sp held m' 3 [v0] = some y0 := h0
          have f1 : DataW.trod enc Try.prog W 0 sp held m' 3 [v1] = some y1 := h1
          have f2 : DataW.trod enc Try.prog W 0 sp held m' 3 [v2] = some y2 := h2
          have f3 : DataW.trod enc Try.prog W 0 sp held m' 5 [v3] = some y3 := h3
          have f4 : DataW.trod enc Try.prog W 0 sp held m' 35 [v4] = some (y4.1, y4.2) := h4
          have f5 : DataW.trod enc Try.prog W 0 sp held m' 38 [v5, v6, v7] = some y5 := h5
          clear h0 h1 h2 h3 h4 h5
          obtain ⟨K0, g0, _, _⟩ := DataW.trod_int Try.underlying3 f0
          obtain ⟨K1, g1, _, _⟩ := DataW.trod_int Try.underlying3 f1
          obtain ⟨N, g2, _, w2⟩ := DataW.trod_int Try.underlying3 f2
          obtain ⟨V, g3, _, w3⟩ := DataW.trod_int Try.underlying5 f3
          have hd : elems[i].1 = .agg [y0.1, y1.1, y2.1, y3.1, y4.1, y5.1] := by rw [hxe]; rfl
          rw [hd] at hwe
          have hwe2 : ∀ n ∈ DataW.weightsEach Try.prog [3, 3, 3, 5, 35, 38] [y0.1, y1.1, y2.1, y3.1, y4.1, y5.1], n ≤ reachBytes := by
            intro n hn
            apply hwe n
            simp only [DataW.weights, Try.underlying40]
            exact hn
          obtain ⟨da, dn, dc, data, g4, hsl⟩ := open_data f4 (fun n hn => hwe2 n (DataW.weights_mem_each (j := 4) rfl rfl n hn))
          obtain ⟨zs, m2, hm2, hze, hzl, hzx, hzs⟩ := DataW.trod_struct Try.underlying38 f5
          match zs, hzx with
          | [z0, z1, z2], _ =>
            have e0 : DataW.trod enc Try.prog W 0 sp held m2 36 (([v5, v6, v7].drop 0).take (Try.prog.cellsOf 36)) = some z0 := hzs 0 _ rfl
            have e1 : DataW.trod enc Try.prog W 0 sp held m2 3 (([v5, v6, v7].drop 1).take (Try.prog.cellsOf 3)) = some z1 := hzs 1 _ rfl
            have e2 : DataW.trod enc Try.prog W 0 sp held m2 3 (([v5, v6, v7].drop 2).take (Try.prog.cellsOf 3)) = some z2 := hzs 2 _ rfl
            rw [cellsSI] at e0
            rw [cellsI] at e1 e2
            have q0 : DataW.trod enc Try.prog W 0 sp held m2 36 [v5] = some (z0.1, z0.2) := e0
            have q1 : DataW.trod enc Try.prog W 0 sp held m2 3 [v6] = some z1 := e1
            have q2 : DataW.trod enc Try.prog W 0 sp held m2 3 [v7] = some z2 := e2
            clear e0 e1 e2
            have hd5 : y5.1 = .agg [z0.1, z1.1, z2.1] := by rw [hze]; rfl
            have hwe3 : ∀ n ∈ DataW.weightsEach Try.prog [36, 3, 3] [z0.1, z1.1, z2.1], n ≤ reachBytes := by
              intro n hn
              refine hwe2 n (DataW.weights_mem_each (j := 5) rfl rfl n ?_)
              rw [hd5]
              simp only [DataW.weights, Try.underlying38]
              exact hn
            obtain ⟨ko, kn, kc, ks, g5, hks, hkn, hkk⟩ := open_keep q0 (fun n hn => hwe3 n (DataW.weights_mem_each (j := 0) rfl rfl n hn))
            obtain ⟨tn, g6, _, _⟩ := DataW.trod_int Try.underlying3 q1
            obtain ⟨ta, g7, _, _⟩ := DataW.trod_int Try.underlying3 q2
            cases g0
            cases g1
            cases g2
            cases g3
            cases g4
            cases g5
            cases g6
            cases g7
            refine ⟨K0, K1, N, V, da, dn, dc, ko, kn, kc, tn, ta, data, ks, ?_, ?_, ?_, ?_, ?_, ?_, ?_, ?_, bounds_i64 w2, bounds_u8 w3, hsl, hks, hkn, hkk⟩
            · simpa [Addr.add_add] using hcc 0 (by omega)
            · simpa [Addr.add_add] using hcc 1 (by omega)
            · simpa [Addr.add_add] using hcc 2 (by omega)
            · simpa [Addr.add_add] using hcc 3 (by omega)
            · simpa [Addr.add_add] using hcc 4 (by omega)
            · simpa [Addr.add_add] using hcc 5 (by omega)
            · simpa [Addr.add_add] using hcc 6 (by omega)
            · simpa [Addr.add_add] using hcc 7 (by omega)
    by_cases h0 : len = 0
    · subst h0
      exact ⟨some x, 0, cap, hcs, ⟨by omega, .inl rfl⟩⟩
    · obtain ⟨b, off, spot⟩ := x
      obtain ⟨_, _, _, _, _, _, _, _, _, _, _, _, _, _, hc, _⟩ := each 0 (by omega)
      have hspot : spot = none := by simpa [Addr.add] using World.cell?_spot hc
      subst hspot
      have hbl := World.block_lt_of_cell? W _ hc
      have hbl' : b < W.heap.size := by simpa [Addr.add] using hbl
      refine ⟨_, len, cap, hcs, ⟨hb, .inr ⟨b, off, rfl, hbl', fun i hi => ?_⟩⟩⟩
      have he := each i hi
      simp only [Addr.add_lit, ← Nat.add_assoc] at he
      exact he
end Go.Proofs.Ytikpfcapnpppdaa
