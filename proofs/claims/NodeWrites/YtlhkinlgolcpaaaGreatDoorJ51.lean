import Derived.Test.YtlhkinlgolcpaaaGreatDoorJ50
import Derived.Test.YtlhkinlgolcpaaaGreatDoorJ39
namespace Go.Proofs.YtlhkinlgolcpaaaGreatDoor
set_option maxRecDepth 100000
open Go.ChangeShapes Go.WideShapes Go.ChangeAt Go.RowKit
theorem bulk_posW {H : Type} : ∀ d : DataW H, 1 ≤ Rows.uptoBulk d
 | .lit (.string _) => by simp [Rows.uptoBulk]
 | .lit (.int _ _) => by simp [Rows.uptoBulk]
 | .lit (.bool _) => by simp [Rows.uptoBulk]
 | .lit _ => by unfold Rows.uptoBulk; split <;> simp_all
 | .nil => by simp [Rows.uptoBulk]
 | .ptr _ => by simp [Rows.uptoBulk]
 | .slice _ _ => by simp [Rows.uptoBulk]
 | .agg _ => by simp [Rows.uptoBulk]
 | .iface _ _ => by simp [Rows.uptoBulk]
 | .map _ => by simp [Rows.uptoBulk]
 | .held _ => by simp [Rows.uptoBulk]
theorem bulk_allW {H : Type} (c : Nat) : ∀ l : List (DataW H), (∀ x ∈ l, c ≤ Rows.uptoBulk x) → c * l.length ≤ Rows.uptoBulkAll l
 | [], _ => Nat.zero_le _
 | d :: r, h => by
  have h1 := h d (by simp)
  have h2 := bulk_allW c r (fun x hx => h x (by simp [hx]))
  simp only [Rows.uptoBulkAll, List.length_cons, Nat.mul_add]
  omega
theorem bulk_memW {H : Type} {y : DataW H} : ∀ {l : List (DataW H)}, y ∈ l → Rows.uptoBulk y ≤ Rows.uptoBulkAll l
 | [], h => by cases h
 | x :: r, h => by
  simp only [Rows.uptoBulkAll]
  rcases List.mem_cons.1 h with rfl | h
  ·omega
  ·have := bulk_memW h
   omega
theorem open_cellsU {H : Type} {enc : TypeId × Value → H} {W : World} {sp : Nat → Bool} {held : Bool} {fuel : Nat} {cs : List Value} {d : DataW H} {p : List MemPlace}
  (hf : DataW.trod enc Tryz.prog W 0 sp held fuel 25 cs = some (d, p)) (hsz : ∀ elems spare, d = .slice elems spare → (elems.length + spare.length) * Tryz.prog.bytesOf 5 ≤ reachBytes) :
  ∃ a n c l, cs = [.slice a n c] ∧ Sl W a n c l ∧ n ≤ 140737488351232 ∧ n + 1 ≤ Rows.uptoBulk d := by
 rcases open_ints Tryz.underlying25 Tryz.underlying5 cells5 hf with ⟨hcs, hx⟩ | ⟨x, len, cap, zs, hcs, _, hl, hm, hz, hx, hcell, hwz⟩
 ·obtain rfl : d = .nil := congrArg Prod.fst hx
  exact ⟨none, 0, 0, [], hcs, ⟨rfl, Nat.le_refl _, by omega, Wf.nil, fun _ => rfl, .inl rfl⟩, by omega, by simp [Rows.uptoBulk]⟩
 ·obtain rfl : d = .slice (lits .u8 (zs.take len)) (lits .u8 (zs.drop len)) := congrArg Prod.fst hx
  have hzl : len ≤ zs.length := by rw [hz]; split <;> omega
  have h1 := hsz _ _ rfl
  rw [bytesU8] at h1
  simp only [lits, List.length_map, List.length_take, List.length_drop, reachBytes] at h1
  have hb : len ≤ 140737488351232 := by omega
  refine ⟨some x, len, cap, zs.take len, hcs, ⟨by simp; omega, hl, by omega, fun y hy => bounds_u8 (hwz y (List.mem_of_mem_take hy)), (by intro h; cases h), ?_⟩, hb, by simp only [Rows.uptoBulk, bulk_lits, List.length_take]; omega⟩
  by_cases h0 : len = 0
  ·exact .inl h0
  ·obtain ⟨b, off, spot⟩ := x
   have hc := hcell 0 (by omega)
   have hspot : spot = none := by simpa [Addr.add] using World.cell?_spot hc
   subst hspot
   refine .inr ⟨b, off, rfl, World.block_lt_of_cell? W _ (by simpa [Addr.add] using hc), fun i hi => ?_⟩
   have h2 := hcell i (by omega)
   rw [Addr.add_lit] at h2
   rw [h2]
   simp [List.getD, hi]
theorem open_cellsB {H : Type} {enc : TypeId × Value → H} {W : World} {base : Nat} {sp : Nat → Bool} {held : Bool} {v : Value} {d : DataW H} {p : List MemPlace} {ts : List TypeId} {ds : List (DataW H)} (hok : Value.okWide Tryz.prog W .any base 22 v)
  (h : DataW.Trod enc Tryz.prog W 0 sp held 22 v d p) (hsz : (DataW.weightsEach Tryz.prog ts ds).all (· ≤ reachBytes) = true) (j : Nat) (ht : ts[j]? = some 22) (hd : ds[j]? = some d) :
  ∃ a n c cs, v = .slice a n c ∧ SlC W a n c cs ∧ (∀ x ∈ cs, (-9223372036854775808 ≤ x.kd ∧ x.kd ≤ 9223372036854775807) ∧ (-9223372036854775808 ≤ x.pg ∧ x.pg ≤ 9223372036854775807) ∧ (-9223372036854775808 ≤ x.ct ∧ x.ct ≤ 9223372036854775807)) ∧ (Rows.uptoBulk d ≤ 1048576 → Few cs) := by
 obtain ⟨a, len, cap, rfl⟩ := okWide_slice Tryz.underlying22 hok
 obtain ⟨fuel, hf⟩ := h
 rcases DataW.trod_slice Tryz.underlying22 hf with ⟨hcs, hx⟩ | ⟨x, len', cap', elems, rest, m, _, hcs, hx, _, hl, hm, hlen, hel, hsp, hns⟩
 ·simp [Value.cells] at hcs
  obtain ⟨rfl, rfl, rfl⟩ := hcs
  exact ⟨none, 0, 0, [], rfl, ⟨rfl, Nat.le_refl _, by omega, fun _ => rfl, .inl rfl⟩, (fun x hx => by cases hx), fun _ => ⟨by simp, fun c hc => by cases hc⟩⟩
 ·simp [Value.cells] at hcs
  obtain ⟨rfl, rfl, rfl⟩ := hcs
  obtain rfl : d = .slice (elems.map (·.1)) (rest.map (·.1)) := congrArg Prod.fst hx
  have hall : ∀ n, n ∈ DataW.weights Tryz.prog 22 (.slice (elems.map (·.1)) (rest.map (·.1))) → n ≤ reachBytes := by
   intro n hn
   have := List.all_eq_true.1 hsz n (DataW.weights_mem_each ht hd n hn)
   simpa using this
  have hw0 := hall ((elems.length + rest.length) * 72) (by simp [DataW.weights, Tryz.underlying22, bytesCell])
  have hb : len ≤ 140737488355328 := by unfold reachBytes at hw0; omega
  have each : ∀ i, i < len → ∃ (c : Cl) (ka : Option Addr) (kc : Nat) (va : Option Addr) (vc : Nat), W.cell? (x.add (i * 5)) = some (.slice ka c.key.length kc) ∧ W.cell? (x.add (i * 5 + 1)) = some (.int .i64 c.kd) ∧ W.cell? (x.add (i * 5 + 2)) = some (.slice va c.val.length vc) ∧ W.cell? (x.add (i * 5 + 3)) = some (.int .i64 c.pg) ∧ W.cell? (x.add (i * 5 + 4)) = some (.int .i64 c.ct) ∧
    Sl W ka c.key.length kc c.key ∧ Sl W va c.val.length vc c.val ∧ (-9223372036854775808 ≤ c.kd ∧ c.kd ≤ 9223372036854775807) ∧ (-9223372036854775808 ≤ c.pg ∧ c.pg ≤ 9223372036854775807) ∧ (-9223372036854775808 ≤ c.ct ∧ c.ct ≤ 9223372036854775807) ∧ ∃ y, elems[i]? = some y ∧ c.key.length + c.val.length + 6 ≤ Rows.uptoBulk y.1 := by
   intro i hi
   have h1 := hel i hi
   have hy : elems[i]? = some elems[i] := List.getElem?_eq_getElem (by omega)
   rw [hy, cellsCell, Option.bind_eq_some_iff] at h1
   obtain ⟨cs', hc1, hc2⟩ := h1
   have hmem : elems[i].1 ∈ elems.map (·.1) := List.mem_map.2 ⟨elems[i], List.getElem_mem _, rfl⟩
   have hwe : ∀ n ∈ elems[i].1.weights Tryz.prog 41, n ≤ reachBytes := fun n hn => hall n (by
    simp only [DataW.weights, Tryz.underlying22, List.mem_cons, List.mem_append]
    exact .inr (.inl (weights_part hmem hn)))
   obtain ⟨xs, m', hm', hxe, hl', hxl, hfs⟩ := DataW.trod_struct Tryz.underlying41 hc2
   obtain ⟨_, hcl, hcc⟩ := World.cells?_some hc1
   match cs', hcl with
   | [v0, v1, v2, v3, v4], _ =>
    match xs, hxl with
    | [y0, y1, y2, y3, y4], _ =>
     have h0 : DataW.trod enc Tryz.prog W 0 sp held m' 25 (([v0, v1, v2, v3, v4].drop 0).take (Tryz.prog.cellsOf 25)) = some y0 := hfs 0 _ rfl
     have h1 : DataW.trod enc Tryz.prog W 0 sp held m' 3 (([v0, v1, v2, v3, v4].drop 1).take (Tryz.prog.cellsOf 3)) = some y1 := hfs 1 _ rfl
     have h2 : DataW.trod enc Tryz.prog W 0 sp held m' 25 (([v0, v1, v2, v3, v4].drop 2).take (Tryz.prog.cellsOf 25)) = some y2 := hfs 2 _ rfl
     have h3 : DataW.trod enc Tryz.prog W 0 sp held m' 3 (([v0, v1, v2, v3, v4].drop 3).take (Tryz.prog.cellsOf 3)) = some y3 := hfs 3 _ rfl
     have h4 : DataW.trod enc Tryz.prog W 0 sp held m' 3 (([v0, v1, v2, v3, v4].drop 4).take (Tryz.prog.cellsOf 3)) = some y4 := hfs 4 _ rfl
     rw [cellsSl] at h0 h2
     rw [cellsInt] at h1 h3 h4
     have f0 : DataW.trod enc Tryz.prog W 0 sp held m' 25 [v0] = some (y0.1, y0.2) := h0
     have f1 : DataW.trod enc Tryz.prog W 0 sp held m' 3 [v1] = some y1 := h1
     have f2 : DataW.trod enc Tryz.prog W 0 sp held m' 25 [v2] = some (y2.1, y2.2) := h2
     have f3 : DataW.trod enc Tryz.prog W 0 sp held m' 3 [v3] = some y3 := h3
     have f4 : DataW.trod enc Tryz.prog W 0 sp held m' 3 [v4] = some y4 := h4
     clear h0 h1 h2 h3 h4
     have hde : elems[i].1 = .agg [y0.1, y1.1, y2.1, y3.1, y4.1] := by rw [hxe]; rfl
     rw [hde] at hwe
     have hwe2 : ∀ n ∈ DataW.weightsEach Tryz.prog [25, 3, 25, 3, 3] [y0.1, y1.1, y2.1, y3.1, y4.1], n ≤ reachBytes := by
      intro n hn
      apply hwe n
      simp only [DataW.weights, Tryz.underlying41]
      exact hn
     obtain ⟨ka, kn, kc, kl', g0, hk, _, bk0⟩ := open_cellsU f0 (fun el spr e => hwe2 _ (DataW.weights_mem_each (j := 0) rfl rfl _ (by rw [e]; simp [DataW.weights, Tryz.underlying25])))
     obtain ⟨va, vn, vc, vl', g2, hv, _, bk2⟩ := open_cellsU f2 (fun el spr e => hwe2 _ (DataW.weights_mem_each (j := 2) rfl rfl _ (by rw [e]; simp [DataW.weights, Tryz.underlying25])))
     obtain ⟨n1, g1, _, w1⟩ := DataW.trod_int Tryz.underlying3 f1
     obtain ⟨n3, g3, _, w3⟩ := DataW.trod_int Tryz.underlying3 f3
     obtain ⟨n4, g4, _, w4⟩ := DataW.trod_int Tryz.underlying3 f4
     cases g0
     cases g1
     cases g2
     cases g3
     cases g4
     have hkl := hk.hlen
     have hvl := hv.hlen
     subst hkl hvl
     refine ⟨⟨kl', n1, vl', n3, n4⟩, ka, kc, va, vc, ?_, ?_, ?_, ?_, ?_, hk, hv, lit_i64 w1, lit_i64 w3, lit_i64 w4, elems[i], hy, ?_⟩
     ·simpa [Addr.add_add] using hcc 0 (by omega)
     ·simpa [Addr.add_add] using hcc 1 (by omega)
     ·simpa [Addr.add_add] using hcc 2 (by omega)
     ·simpa [Addr.add_add] using hcc 3 (by omega)
     ·simpa [Addr.add_add] using hcc 4 (by omega)
     ·rw [hde]
      simp only [Rows.uptoBulk, Rows.uptoBulkAll]
      have q1 := bulk_posW y1.1
      have q3 := bulk_posW y3.1
      have q4 := bulk_posW y4.1
      omega
  have hls : ∀ n, n ≤ len → ∃ cs : List Cl, cs.length = n ∧ ∀ i c, cs[i]? = some c → ∃ (ka : Option Addr) (kc : Nat) (va : Option Addr) (vc : Nat), W.cell? (x.add (i * 5)) = some (.slice ka c.key.length kc) ∧ W.cell? (x.add (i * 5 + 1)) = some (.int .i64 c.kd) ∧ W.cell? (x.add (i * 5 + 2)) = some (.slice va c.val.length vc) ∧ W.cell? (x.add (i * 5 + 3)) = some (.int .i64 c.pg) ∧ W.cell? (x.add (i * 5 + 4)) = some (.int .i64 c.ct) ∧
    Sl W ka c.key.length kc c.key ∧ Sl W va c.val.length vc c.val ∧ (-9223372036854775808 ≤ c.kd ∧ c.kd ≤ 9223372036854775807) ∧ (-9223372036854775808 ≤ c.pg ∧ c.pg ≤ 9223372036854775807) ∧ (-9223372036854775808 ≤ c.ct ∧ c.ct ≤ 9223372036854775807) ∧ ∃ y, elems[i]? = some y ∧ c.key.length + c.val.length + 6 ≤ Rows.uptoBulk y.1 := by
   intro n
   induction n with
   | zero => intro _; exact ⟨[], rfl, fun i c hc => by simp at hc⟩
   | succ n ih =>
    intro hn
    obtain ⟨cs, h1, h2⟩ := ih (by omega)
    obtain ⟨c, hc⟩ := each n (by omega)
    refine ⟨cs ++ [c], by simp [h1], fun i d hd => ?_⟩
    by_cases hin : i < n
    ·rw [List.getElem?_append_left (by omega)] at hd
     exact h2 i d hd
    ·have hi : i < (cs ++ [c]).length := (List.getElem?_eq_some_iff.1 hd).1
     simp only [List.length_append, List.length_cons, List.length_nil] at hi
     obtain rfl : i = n := by omega
     rw [List.getElem?_append_right (by omega), h1] at hd
     simp at hd
     subst hd
     exact hc
  obtain ⟨cs, hl1, hl2⟩ := hls len (Nat.le_refl _)
  refine ⟨some x, len, cap, cs, rfl, ⟨hl1, hl, hb, (by intro h; cases h), ?_⟩, fun c hc => ?_, fun hbk => ?_⟩
  ·by_cases h0 : len = 0
   ·exact .inl h0
   ·obtain ⟨b, off, spot⟩ := x
    obtain ⟨c, hc⟩ : ∃ c, cs[0]? = some c := ⟨_, List.getElem?_eq_getElem (by omega)⟩
    obtain ⟨ka, kc, va, vc, h3, _⟩ := hl2 0 c hc
    have hspot : spot = none := by simpa [Addr.add] using World.cell?_spot h3
    subst hspot
    have hbl := World.block_lt_of_cell? W _ h3
    refine .inr ⟨b, off, rfl, by simpa [Addr.add] using hbl, fun i c hc => ?_⟩
    obtain ⟨ka, kc, va, vc, e0, e1, e2, e3, e4, e5, e6, _⟩ := hl2 i c hc
    simp only [Addr.add_lit] at e0 e1 e2 e3 e4
    exact ⟨ka, kc, va, vc, e0, by rw [← e1]; simp [Nat.add_assoc], by rw [← e2]; simp [Nat.add_assoc], by rw [← e3]; simp [Nat.add_assoc], by rw [← e4]; simp [Nat.add_assoc], e5, e6⟩
  ·obtain ⟨i, hi, e⟩ := List.getElem_of_mem hc
   obtain ⟨_, _, _, _, _, _, _, _, _, _, _, b1, b2, b3, _⟩ := hl2 i c (by rw [List.getElem?_eq_getElem hi, e])
   exact ⟨b1, b2, b3⟩
  ·have hel' : elems.length = len := by omega
   simp only [Rows.uptoBulk] at hbk
   have h6 : ∀ y ∈ elems.map (·.1), 6 ≤ Rows.uptoBulk y := by
    intro y hy
    obtain ⟨z, hz, rfl⟩ := List.mem_map.1 hy
    obtain ⟨i, hi, rfl⟩ := List.getElem_of_mem hz
    obtain ⟨c, hc⟩ : ∃ c, cs[i]? = some c := ⟨_, List.getElem?_eq_getElem (by omega)⟩
    obtain ⟨_, _, _, _, _, _, _, _, _, _, _, _, _, _, y, hy1, hy2⟩ := hl2 i c hc
    rw [List.getElem?_eq_getElem hi] at hy1
    injection hy1 with hy1
    rw [hy1]
    omega
   have h1 := bulk_allW 6 _ h6
   rw [List.length_map] at h1
   refine ⟨by omega, fun c hc => ?_⟩
   obtain ⟨i, hi, e⟩ := List.getElem_of_mem hc
   obtain ⟨_, _, _, _, _, _, _, _, _, _, _, _, _, _, y, hy1, hy2⟩ := hl2 i c (by rw [List.getElem?_eq_getElem hi, e])
   have h2 := bulk_memW (List.mem_map.2 ⟨y, List.mem_of_getElem? hy1, rfl⟩ : y.1 ∈ elems.map (·.1))
   omega
end Go.Proofs.YtlhkinlgolcpaaaGreatDoor
