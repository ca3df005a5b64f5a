import Derived.Test.YtoejadhlkamcjaaDoorJ49
import Derived.Test.YtoejadhlkamcjaaDoorJ47
namespace Go.Proofs.YtoejadhlkamcjaaDoor
set_option maxRecDepth 100000
open Go.ChangeShapes Go.WideShapes Go.ChangeAt Go.RowKit
theorem weights_part {H : Type} {t : TypeId} {d : DataW H} {n : Nat} : ∀ {ds : List (DataW H)}, d ∈ ds → n ∈ d.weights Tryd.prog t → n ∈ DataW.weightsAll Tryd.prog t ds
 | [], h, _ => by cases h
 | x :: ds, h, hn => by
  simp only [DataW.weightsAll, List.mem_append]
  rcases List.mem_cons.1 h with rfl | h
  ·exact .inl hn
  ·exact .inr (weights_part h hn)
theorem cellsOpS : Tryd.prog.cellsOf 35 = 6 := by kernel_rfl
theorem cellsIntS : Tryd.prog.cellsOf 3 = 1 := by kernel_rfl
theorem bulk_posS {H : Type} : ∀ d : DataW H, 1 ≤ Rows.uptoBulk d
 | .lit (.string _) => by simp [Rows.uptoBulk]
 | .lit (.int _ _) => by simp [Rows.uptoBulk]
 | .lit (.bool _) => by simp [Rows.uptoBulk]
 | .lit _ => by unfold Rows.uptoBulk; split <;> simp_all
 | .nil => by simp [Rows.uptoBulk]
 | .ptr _ => by simp [Rows.uptoBulk]
 | .slice _ _ => by simp [Rows.uptoBulk]
 | .agg _ => by simp [Rows.uptoBulk]
 | .iface _ _ => by simp [Rows.uptoBulk]
 | .map _ => by simp [Rows.uptoBulk]
 | .held _ => by simp [Rows.uptoBulk]
theorem bulk_allS {H : Type} (c : Nat) : ∀ l : List (DataW H), (∀ x ∈ l, c ≤ Rows.uptoBulk x) → c * l.length ≤ Rows.uptoBulkAll l
 | [], _ => Nat.zero_le _
 | d :: r, h => by
  have h1 := h d (by simp)
  have h2 := bulk_allS c r (fun x hx => h x (by simp [hx]))
  simp only [Rows.uptoBulkAll, List.length_cons, Nat.mul_add]
  omega
theorem open_opsS {H : Type} {enc : TypeId × Value → H} {W : World} {base : Nat} {sp : Nat → Bool} {held : Bool} {v : Value} {d : DataW H} {p : List MemPlace} {ts : List TypeId} {ds : List (DataW H)} (hok : Value.okWide Tryd.prog W .any base 22 v)
  (h : DataW.Trod enc Tryd.prog W 0 sp held 22 v d p) (hsz : (DataW.weightsEach Tryd.prog ts ds).all (· ≤ reachBytes) = true) (j : Nat) (ht : ts[j]? = some 22) (hd : ds[j]? = some d) :
  ∃ a n c os, v = .slice a n c ∧ SlS9 W a n c os ∧ n ≤ Rows.uptoBulk d := by
 obtain ⟨a, len, cap, rfl⟩ := okWide_slice Tryd.underlying22 hok
 obtain ⟨fuel, hf⟩ := h
 rcases DataW.trod_slice Tryd.underlying22 hf with ⟨hcs, hx⟩ | ⟨x, len', cap', elems, rest, m, _, hcs, hx, _, hl, hm, hlen, hel, hsp, hns⟩
 ·simp [Value.cells] at hcs
  obtain ⟨rfl, rfl, rfl⟩ := hcs
  exact ⟨none, 0, 0, [], rfl, ⟨rfl, Nat.le_refl _, .inl rfl⟩, Nat.zero_le _⟩
 ·simp [Value.cells] at hcs
  obtain ⟨rfl, rfl, rfl⟩ := hcs
  obtain rfl : d = .slice (elems.map (·.1)) (rest.map (·.1)) := congrArg Prod.fst hx
  have hall : ∀ n, n ∈ DataW.weights Tryd.prog 22 (.slice (elems.map (·.1)) (rest.map (·.1))) → n ≤ reachBytes := by
   intro n hn
   have := List.all_eq_true.1 hsz n (DataW.weights_mem_each ht hd n hn)
   simpa using this
  have each : ∀ i, i < len → ∃ (o : Os9) (va : Option Addr) (vc : Nat), W.cell? (x.add (i * 6)) = some (.int .i64 o.k) ∧ W.cell? (x.add (i * 6 + 1)) = some (.int .i64 o.f) ∧ W.cell? (x.add (i * 6 + 2)) = some (.int .i64 o.n) ∧ W.cell? (x.add (i * 6 + 3)) = some (.int .i64 o.fr) ∧ W.cell? (x.add (i * 6 + 4)) = some (.int .i64 o.to) ∧ W.cell? (x.add (i * 6 + 5)) = some (.slice va o.v.length vc) ∧ Sl W va o.v.length vc o.v ∧ -9223372036854775808 ≤ o.f ∧ o.f ≤ 9223372036854775807 := by
   intro i hi
   have h1 := hel i hi
   have hy : elems[i]? = some elems[i] := List.getElem?_eq_getElem (by omega)
   rw [hy, cellsOpS, Option.bind_eq_some_iff] at h1
   obtain ⟨cs', hc1, hc2⟩ := h1
   have hmem : elems[i].1 ∈ elems.map (·.1) := List.mem_map.2 ⟨elems[i], List.getElem_mem _, rfl⟩
   have hwe : ∀ n ∈ elems[i].1.weights Tryd.prog 35, n ≤ reachBytes := fun n hn => hall n (by
    simp only [DataW.weights, Tryd.underlying22, List.mem_cons, List.mem_append]
    exact .inr (.inl (weights_part hmem hn)))
   obtain ⟨xs, m', hm', hxe, hl', hxl, hfs⟩ := DataW.trod_struct Tryd.underlying35 hc2
   obtain ⟨_, hcl, hcc⟩ := World.cells?_some hc1
   match cs', hcl with
   | [t0, t1, t2, t3, t4, t5], _ =>
    match xs, hxl with
    | [z0, z1, z2, z3, z4, z5], _ =>
     have e0 : DataW.trod enc Tryd.prog W 0 sp held m' 3 (([t0, t1, t2, t3, t4, t5].drop 0).take (Tryd.prog.cellsOf 3)) = some z0 := hfs 0 _ rfl
     have e1 : DataW.trod enc Tryd.prog W 0 sp held m' 3 (([t0, t1, t2, t3, t4, t5].drop 1).take (Tryd.prog.cellsOf 3)) = some z1 := hfs 1 _ rfl
     have e2 : DataW.trod enc Tryd.prog W 0 sp held m' 3 (([t0, t1, t2, t3, t4, t5].drop 2).take (Tryd.prog.cellsOf 3)) = some z2 := hfs 2 _ rfl
     have e3 : DataW.trod enc Tryd.prog W 0 sp held m' 3 (([t0, t1, t2, t3, t4, t5].drop 3).take (Tryd.prog.cellsOf 3)) = some z3 := hfs 3 _ rfl
     have e4 : DataW.trod enc Tryd.prog W 0 sp held m' 3 (([t0, t1, t2, t3, t4, t5].drop 4).take (Tryd.prog.cellsOf 3)) = some z4 := hfs 4 _ rfl
     have e5 : DataW.trod enc Tryd.prog W 0 sp held m' 33 (([t0, t1, t2, t3, t4, t5].drop 5).take (Tryd.prog.cellsOf 33)) = some z5 := hfs 5 _ rfl
     rw [cellsIntS] at e0 e1 e2 e3 e4
     rw [cellsSl] at e5
     have k0 : DataW.trod enc Tryd.prog W 0 sp held m' 3 [t0] = some z0 := e0
     have k1 : DataW.trod enc Tryd.prog W 0 sp held m' 3 [t1] = some z1 := e1
     have k2 : DataW.trod enc Tryd.prog W 0 sp held m' 3 [t2] = some z2 := e2
     have k3 : DataW.trod enc Tryd.prog W 0 sp held m' 3 [t3] = some z3 := e3
     have k4 : DataW.trod enc Tryd.prog W 0 sp held m' 3 [t4] = some z4 := e4
     have k5 : DataW.trod enc Tryd.prog W 0 sp held m' 33 [t5] = some (z5.1, z5.2) := e5
     clear e0 e1 e2 e3 e4 e5
     have hde : elems[i].1 = .agg [z0.1, z1.1, z2.1, z3.1, z4.1, z5.1] := by rw [hxe]; rfl
     rw [hde] at hwe
     have hwe1 : ∀ n ∈ z5.1.weights Tryd.prog 33, n ≤ reachBytes := by
      intro n hn
      apply hwe n
      simp only [DataW.weights, Tryd.underlying35]
      exact DataW.weights_mem_each (j := 5) (ts := [3, 3, 3, 3, 3, 33]) (ds := [z0.1, z1.1, z2.1, z3.1, z4.1, z5.1]) rfl rfl n hn
     obtain ⟨va, vn, vc, vl', g5, hv, _⟩ := open_cells k5 (fun el spr e => hwe1 _ (by rw [e]; simp [DataW.weights, Tryd.underlying33]))
     obtain ⟨n0, g0, _, w0⟩ := DataW.trod_int Tryd.underlying3 k0
     obtain ⟨n1, g1, _, w1⟩ := DataW.trod_int Tryd.underlying3 k1
     obtain ⟨n2, g2, _, w2⟩ := DataW.trod_int Tryd.underlying3 k2
     obtain ⟨n3, g3, _, w3⟩ := DataW.trod_int Tryd.underlying3 k3
     obtain ⟨n4, g4, _, w4⟩ := DataW.trod_int Tryd.underlying3 k4
     cases g0
     cases g1
     cases g2
     cases g3
     cases g4
     cases g5
     have hvl := hv.hlen
     subst hvl
     have hb := bounds_i64 w1
     refine ⟨⟨n0, n1, n2, n3, n4, vl'⟩, va, vc, ?_, ?_, ?_, ?_, ?_, ?_, hv, hb.1, hb.2⟩
     ·simpa [Addr.add_add] using hcc 0 (by omega)
     ·simpa [Addr.add_add] using hcc 1 (by omega)
     ·simpa [Addr.add_add] using hcc 2 (by omega)
     ·simpa [Addr.add_add] using hcc 3 (by omega)
     ·simpa [Addr.add_add] using hcc 4 (by omega)
     ·simpa [Addr.add_add] using hcc 5 (by omega)
  have hls : ∀ n, n ≤ len → ∃ os : List Os9, os.length = n ∧ ∀ i o, os[i]? = some o → ∃ (va : Option Addr) (vc : Nat), W.cell? (x.add (i * 6)) = some (.int .i64 o.k) ∧ W.cell? (x.add (i * 6 + 1)) = some (.int .i64 o.f) ∧ W.cell? (x.add (i * 6 + 2)) = some (.int .i64 o.n) ∧ W.cell? (x.add (i * 6 + 3)) = some (.int .i64 o.fr) ∧ W.cell? (x.add (i * 6 + 4)) = some (.int .i64 o.to) ∧ W.cell? (x.add (i * 6 + 5)) = some (.slice va o.v.length vc) ∧ Sl W va o.v.length vc o.v ∧ -9223372036854775808 ≤ o.f ∧ o.f ≤ 9223372036854775807 := by
   intro n
   induction n with
   | zero => intro _; exact ⟨[], rfl, fun i c hc => by simp at hc⟩
   | succ n ih =>
    intro hn
    obtain ⟨cs, h1, h2⟩ := ih (by omega)
    obtain ⟨c, hc⟩ := each n (by omega)
    refine ⟨cs ++ [c], by simp [h1], fun i d hd => ?_⟩
    by_cases hin : i < n
    ·rw [List.getElem?_append_left (by omega)] at hd
     exact h2 i d hd
    ·have hi : i < (cs ++ [c]).length := (List.getElem?_eq_some_iff.1 hd).1
     simp only [List.length_append, List.length_cons, List.length_nil] at hi
     obtain rfl : i = n := by omega
     rw [List.getElem?_append_right (by omega), h1] at hd
     simp at hd
     subst hd
     exact hc
  obtain ⟨os, hl1, hl2⟩ := hls len (Nat.le_refl _)
  refine ⟨some x, len, cap, os, rfl, ⟨hl1, hl, ?_⟩, ?_⟩
  ·by_cases h0 : len = 0
   ·exact .inl h0
   ·obtain ⟨b, off, spot⟩ := x
    obtain ⟨c, hc⟩ : ∃ c, os[0]? = some c := ⟨_, List.getElem?_eq_getElem (by omega)⟩
    obtain ⟨va, vc, h3, _⟩ := hl2 0 c hc
    have hspot : spot = none := by simpa [Addr.add] using World.cell?_spot h3
    subst hspot
    have hbl := World.block_lt_of_cell? W _ h3
    refine .inr ⟨b, off, rfl, by simpa [Addr.add] using hbl, fun i c hc => ?_⟩
    obtain ⟨va, vc, e0, e1, e2, e3, e4, e5, e6, e7, e8⟩ := hl2 i c hc
    simp only [Addr.add_lit] at e0 e1 e2 e3 e4 e5
    exact ⟨va, vc, e0, by rw [← e1]; simp [Nat.add_assoc], by rw [← e2]; simp [Nat.add_assoc], by rw [← e3]; simp [Nat.add_assoc], by rw [← e4]; simp [Nat.add_assoc], by rw [← e5]; simp [Nat.add_assoc], e6, e7, e8⟩
  ·have h1 := bulk_allS 1 (elems.map (·.1)) (fun y _ => bulk_posS y)
   rw [List.length_map] at h1
   simp only [Rows.uptoBulk]
   have : elems.length = len := by omega
   omega
end Go.Proofs.YtoejadhlkamcjaaDoor
