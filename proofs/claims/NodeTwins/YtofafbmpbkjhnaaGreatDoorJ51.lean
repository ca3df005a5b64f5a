import Derived.Test.YtofafbmpbkjhnaaGreatDoorJ49
namespace Go.Proofs.YtofafbmpbkjhnaaGreatDoor
set_option maxRecDepth 100000
open Go.RowKit
structure Op9 where
 q : Int
 x : Int
 c : Cl
 key : List Int
def OAt9 (w : World) (b off : Nat) (o : Op9) : Prop :=
 ∃ ka kc va vc qa qc, w.cell? ⟨b, off, none⟩ = some (.int .i64 o.q) ∧ w.cell? ⟨b, off + 1, none⟩ = some (.int .i64 o.x) ∧ w.cell? ⟨b, off + 2, none⟩ = some (.slice ka o.c.key.length kc) ∧ w.cell? ⟨b, off + 3, none⟩ = some (.int .i64 o.c.kd) ∧ w.cell? ⟨b, off + 4, none⟩ = some (.slice va o.c.val.length vc) ∧ w.cell? ⟨b, off + 5, none⟩ = some (.int .i64 o.c.pg) ∧ w.cell? ⟨b, off + 6, none⟩ = some (.int .i64 o.c.ct) ∧ w.cell? ⟨b, off + 7, none⟩ = some (.slice qa o.key.length qc) ∧ Sl w ka o.c.key.length kc o.c.key ∧ Sl w va o.c.val.length vc o.c.val ∧ Sl w qa o.key.length qc o.key
structure SlO9 (w : World) (ao : Option Addr) (n cap : Nat) (os : List Op9) : Prop where
 hlen : os.length = n
 hcap : n ≤ cap
 hat : n = 0 ∨ ∃ b off, ao = some ⟨b, off, none⟩ ∧ b < w.heap.size ∧ ∀ i o, os[i]? = some o → OAt9 w b (off + i * 8) o
theorem SlO9.item9 {w wr : World} {ao : Option Addr} {n cap : Nat} {os : List Op9} (h : SlO9 w ao n cap os) (hb : Below w.heap.size w wr) (j : Nat) (hj : j < n) : ∃ (b off : Nat) (o : Op9) (ka : Option Addr) (kc : Nat) (va : Option Addr) (vc : Nat) (qa : Option Addr) (qc : Nat), ao = some ⟨b, off, none⟩ ∧ o ∈ os ∧ wr.cell? ⟨b, off + j * 8, none⟩ = some (.int .i64 o.q) ∧ wr.cell? ⟨b, off + j * 8 + 1, none⟩ = some (.int .i64 o.x) ∧ wr.cell? ⟨b, off + j * 8 + 2, none⟩ = some (.slice ka o.c.key.length kc) ∧ wr.cell? ⟨b, off + j * 8 + 3, none⟩ = some (.int .i64 o.c.kd) ∧ wr.cell? ⟨b, off + j * 8 + 4, none⟩ = some (.slice va o.c.val.length vc) ∧ wr.cell? ⟨b, off + j * 8 + 5, none⟩ = some (.int .i64 o.c.pg) ∧ wr.cell? ⟨b, off + j * 8 + 6, none⟩ = some (.int .i64 o.c.ct) ∧ wr.cell? ⟨b, off + j * 8 + 7, none⟩ = some (.slice qa o.key.length qc) ∧ Sl w ka o.c.key.length kc o.c.key ∧ Sl w va o.c.val.length vc o.c.val ∧ Sl w qa o.key.length qc o.key := by
 have hl := h.hlen
 rcases h.hat with h0 | ⟨b, off, e, hlt, hc⟩
 ·omega
 ·obtain ⟨o, ho⟩ : ∃ o, os[j]? = some o := ⟨_, zI (by omega)⟩
  obtain ⟨ka, kc, va, vc, qa, qc, e0, e1, e2, e3, e4, e5, e6, e7, s1, s2, s3⟩ := hc j o ho
  have hm : ∀ i, wr.cell? ⟨b, off + j * 8 + i, none⟩ = w.cell? ⟨b, off + j * 8 + i, none⟩ := fun i => hb.cell (p := ⟨b, off + j * 8 + i, none⟩) hlt
  exact ⟨b, off, o, ka, kc, va, vc, qa, qc, e, List.mem_of_getElem? ho, (hm 0).trans e0, (hm 1).trans e1, (hm 2).trans e2, (hm 3).trans e3, (hm 4).trans e4, (hm 5).trans e5, (hm 6).trans e6, (hm 7).trans e7, s1, s2, s3⟩
end Go.Proofs.YtofafbmpbkjhnaaGreatDoor
namespace Go.Proofs.YtofafbmpbkjhnaaGreatDoor
set_option maxRecDepth 100000
open Go.ChangeShapes Go.WideShapes Go.ChangeAt Go.RowKit
theorem cellsOp9 : Tryz.prog.cellsOf 45 = 8 := by kernel_rfl
theorem bytesOp9 : Tryz.prog.bytesOf 45 = 112 := by kernel_rfl
theorem open_ops9 {H : Type} {enc : TypeId × Value → H} {W : World} {base : Nat} {sp : Nat → Bool} {held : Bool} {v : Value} {d : DataW H} {p : List MemPlace} {ts : List TypeId} {ds : List (DataW H)} (hok : Value.okWide Tryz.prog W .any base 22 v)
  (h : DataW.Trod enc Tryz.prog W 0 sp held 22 v d p) (hsz : (DataW.weightsEach Tryz.prog ts ds).all (· ≤ reachBytes) = true) (j : Nat) (ht : ts[j]? = some 22) (hd : ds[j]? = some d) :
  ∃ a n c os, v = .slice a n c ∧ SlO9 W a n c os ∧ n ≤ 1256584717421 ∧ ∀ o ∈ os, o.c.key.length ≤ 140737488351232 ∧ o.c.val.length ≤ 140737488351232 ∧ o.key.length ≤ 140737488351232 := by
 obtain ⟨a, len, cap, rfl⟩ := okWide_slice Tryz.underlying22 hok
 obtain ⟨fuel, hf⟩ := h
 rcases DataW.trod_slice Tryz.underlying22 hf with ⟨hcs, hx⟩ | ⟨x, len', cap', elems, rest, m, _, hcs, hx, _, hl, hm, hlen, hel, hsp, hns⟩
 ·simp [Value.cells] at hcs
  obtain ⟨rfl, rfl, rfl⟩ := hcs
  exact ⟨none, 0, 0, [], rfl, ⟨rfl, Lr, .inl rfl⟩, by omega, fun o ho => by cases ho⟩
 ·simp [Value.cells] at hcs
  obtain ⟨rfl, rfl, rfl⟩ := hcs
  obtain rfl : d = .slice (elems.map (·.1)) (rest.map (·.1)) := congrArg Prod.fst hx
  have hall : ∀ n, n ∈ DataW.weights Tryz.prog 22 (.slice (elems.map (·.1)) (rest.map (·.1))) → n ≤ reachBytes := by
   intro n hn
   have := List.all_eq_true.1 hsz n (DataW.weights_mem_each ht hd n hn)
   simpa using this
  have hw0 := hall ((elems.length + rest.length) * 112) (by simp [DataW.weights, Tryz.underlying22, bytesOp9])
  have hb : len ≤ 1256584717421 := by unfold reachBytes at hw0; omega
  have each : ∀ i, i < len → ∃ (o : Op9) (ka : Option Addr) (kc : Nat) (va : Option Addr) (vc : Nat) (qa : Option Addr) (qc : Nat), W.cell? (x.add (i * 8)) = some (.int .i64 o.q) ∧ W.cell? (x.add (i * 8 + 1)) = some (.int .i64 o.x) ∧ W.cell? (x.add (i * 8 + 2)) = some (.slice ka o.c.key.length kc) ∧ W.cell? (x.add (i * 8 + 3)) = some (.int .i64 o.c.kd) ∧ W.cell? (x.add (i * 8 + 4)) = some (.slice va o.c.val.length vc) ∧ W.cell? (x.add (i * 8 + 5)) = some (.int .i64 o.c.pg) ∧ W.cell? (x.add (i * 8 + 6)) = some (.int .i64 o.c.ct) ∧ W.cell? (x.add (i * 8 + 7)) = some (.slice qa o.key.length qc) ∧
    Sl W ka o.c.key.length kc o.c.key ∧ Sl W va o.c.val.length vc o.c.val ∧ Sl W qa o.key.length qc o.key ∧ o.c.key.length ≤ 140737488351232 ∧ o.c.val.length ≤ 140737488351232 ∧ o.key.length ≤ 140737488351232 := by
   intro i hi
   have h1 := hel i hi
   have hy : elems[i]? = some elems[i] := zI (by omega)
   rw [hy, cellsOp9, Option.bind_eq_some_iff] at h1
   obtain ⟨cs', hc1, hc2⟩ := h1
   have hmem : elems[i].1 ∈ elems.map (·.1) := List.mem_map.2 ⟨elems[i], List.getElem_mem _, rfl⟩
   have hwe : ∀ n ∈ elems[i].1.weights Tryz.prog 45, n ≤ reachBytes := fun n hn => hall n (by
    simp only [DataW.weights, Tryz.underlying22, List.mem_cons, List.mem_append]
    exact .inr (.inl (weights_part hmem hn)))
   obtain ⟨xs, m', hm', hxe, hl', hxl, hfs⟩ := DataW.trod_struct Tryz.underlying45 hc2
   obtain ⟨_, hcl, hcc⟩ := World.cells?_some hc1
   match cs', hcl with
   | [t0, t1, v0, v1, v2, v3, v4, t7], _ =>
    match xs, hxl with
    | [z0, z1, z2, z3], _ =>
     have e0 : DataW.trod enc Tryz.prog W 0 sp held m' 3 (([t0, t1, v0, v1, v2, v3, v4, t7].drop 0).take (Tryz.prog.cellsOf 3)) = some z0 := hfs 0 _ rfl
     have e1 : DataW.trod enc Tryz.prog W 0 sp held m' 3 (([t0, t1, v0, v1, v2, v3, v4, t7].drop 1).take (Tryz.prog.cellsOf 3)) = some z1 := hfs 1 _ rfl
     have e2 : DataW.trod enc Tryz.prog W 0 sp held m' 43 (([t0, t1, v0, v1, v2, v3, v4, t7].drop 2).take (Tryz.prog.cellsOf 43)) = some z2 := hfs 2 _ rfl
     have e3 : DataW.trod enc Tryz.prog W 0 sp held m' 41 (([t0, t1, v0, v1, v2, v3, v4, t7].drop 7).take (Tryz.prog.cellsOf 41)) = some z3 := hfs 3 _ rfl
     rw [cellsInt] at e0 e1
     rw [cellsSl] at e3
     rw [cellsCell] at e2
     have k0 : DataW.trod enc Tryz.prog W 0 sp held m' 3 [t0] = some z0 := e0
     have k1 : DataW.trod enc Tryz.prog W 0 sp held m' 3 [t1] = some z1 := e1
     have k2 : DataW.trod enc Tryz.prog W 0 sp held m' 43 [v0, v1, v2, v3, v4] = some (z2.1, z2.2) := e2
     have k3 : DataW.trod enc Tryz.prog W 0 sp held m' 41 [t7] = some (z3.1, z3.2) := e3
     clear e0 e1 e2 e3
     have hde : elems[i].1 = .agg [z0.1, z1.1, z2.1, z3.1] := by rw [hxe]; rfl
     rw [hde] at hwe
     have hwe1 : ∀ n ∈ z2.1.weights Tryz.prog 43, n ≤ reachBytes := by
      intro n hn
      apply hwe n
      simp only [DataW.weights, Tryz.underlying45]
      exact DataW.weights_mem_each (j := 2) (ts := [3, 3, 43, 41]) (ds := [z0.1, z1.1, z2.1, z3.1]) rfl rfl n hn
     have hwe3 : ∀ n ∈ z3.1.weights Tryz.prog 41, n ≤ reachBytes := by
      intro n hn
      apply hwe n
      simp only [DataW.weights, Tryz.underlying45]
      exact DataW.weights_mem_each (j := 3) (ts := [3, 3, 43, 41]) (ds := [z0.1, z1.1, z2.1, z3.1]) rfl rfl n hn
     obtain ⟨ys, m2, hm2, hye, hl2, hyl, hgs⟩ := DataW.trod_struct Tryz.underlying43 k2
     match ys, hyl with
     | [y0, y1, y2, y3, y4], _ =>
      have h0 : DataW.trod enc Tryz.prog W 0 sp held m2 41 (([v0, v1, v2, v3, v4].drop 0).take (Tryz.prog.cellsOf 41)) = some y0 := hgs 0 _ rfl
      have h1 : DataW.trod enc Tryz.prog W 0 sp held m2 3 (([v0, v1, v2, v3, v4].drop 1).take (Tryz.prog.cellsOf 3)) = some y1 := hgs 1 _ rfl
      have h2 : DataW.trod enc Tryz.prog W 0 sp held m2 41 (([v0, v1, v2, v3, v4].drop 2).take (Tryz.prog.cellsOf 41)) = some y2 := hgs 2 _ rfl
      have h3 : DataW.trod enc Tryz.prog W 0 sp held m2 3 (([v0, v1, v2, v3, v4].drop 3).take (Tryz.prog.cellsOf 3)) = some y3 := hgs 3 _ rfl
      have h4 : DataW.trod enc Tryz.prog W 0 sp held m2 3 (([v0, v1, v2, v3, v4].drop 4).take (Tryz.prog.cellsOf 3)) = some y4 := hgs 4 _ rfl
      rw [cellsSl] at h0 h2
      rw [cellsInt] at h1 h3 h4
      have f0 : DataW.trod enc Tryz.prog W 0 sp held m2 41 [v0] = some (y0.1, y0.2) := h0
      have f1 : DataW.trod enc Tryz.prog W 0 sp held m2 3 [v1] = some y1 := h1
      have f2 : DataW.trod enc Tryz.prog W 0 sp held m2 41 [v2] = some (y2.1, y2.2) := h2
      have f3 : DataW.trod enc Tryz.prog W 0 sp held m2 3 [v3] = some y3 := h3
      have f4 : DataW.trod enc Tryz.prog W 0 sp held m2 3 [v4] = some y4 := h4
      clear h0 h1 h2 h3 h4
      have hde2 : z2.1 = .agg [y0.1, y1.1, y2.1, y3.1, y4.1] := congrArg Prod.fst hye
      rw [hde2] at hwe1
      have hwe2 : ∀ n ∈ DataW.weightsEach Tryz.prog [41, 3, 41, 3, 3] [y0.1, y1.1, y2.1, y3.1, y4.1], n ≤ reachBytes := by
       intro n hn
       apply hwe1 n
       simp only [DataW.weights, Tryz.underlying43]
       exact hn
      obtain ⟨ka, kn, kc, kl', g0, hk, bk⟩ := open_cells f0 (fun el spr e => hwe2 _ (DataW.weights_mem_each (j := 0) rfl rfl _ (by rw [e]; simp [DataW.weights, Tryz.underlying41])))
      obtain ⟨va, vn, vc, vl', g2, hv, bv⟩ := open_cells f2 (fun el spr e => hwe2 _ (DataW.weights_mem_each (j := 2) rfl rfl _ (by rw [e]; simp [DataW.weights, Tryz.underlying41])))
      obtain ⟨qa, qn, qc, ql', g7, hq, bq⟩ := open_cells k3 (fun el spr e => hwe3 _ (by rw [e]; simp [DataW.weights, Tryz.underlying41]))
      obtain ⟨n1, g1, _, w1⟩ := DataW.trod_int Tryz.underlying3 f1
      obtain ⟨n3, g3, _, w3⟩ := DataW.trod_int Tryz.underlying3 f3
      obtain ⟨n4, g4, _, w4⟩ := DataW.trod_int Tryz.underlying3 f4
      obtain ⟨n5, g5, _, w5⟩ := DataW.trod_int Tryz.underlying3 k0
      obtain ⟨n6, g6, _, w6⟩ := DataW.trod_int Tryz.underlying3 k1
      cases g0
      cases g1
      cases g2
      cases g3
      cases g4
      cases g5
      cases g6
      cases g7
      have hkl := hk.hlen
      have hvl := hv.hlen
      have hql := hq.hlen
      subst hkl hvl hql
      refine ⟨⟨n5, n6, ⟨kl', n1, vl', n3, n4⟩, ql'⟩, ka, kc, va, vc, qa, qc, ?_, ?_, ?_, ?_, ?_, ?_, ?_, ?_, hk, hv, hq, bk, bv, bq⟩
      ·simpa [Addr.add_add] using hcc 0 (by omega)
      ·simpa [Addr.add_add] using hcc 1 (by omega)
      ·simpa [Addr.add_add] using hcc 2 (by omega)
      ·simpa [Addr.add_add] using hcc 3 (by omega)
      ·simpa [Addr.add_add] using hcc 4 (by omega)
      ·simpa [Addr.add_add] using hcc 5 (by omega)
      ·simpa [Addr.add_add] using hcc 6 (by omega)
      ·simpa [Addr.add_add] using hcc 7 (by omega)
  have hls : ∀ n, n ≤ len → ∃ os : List Op9, os.length = n ∧ ∀ i o, os[i]? = some o → ∃ (ka : Option Addr) (kc : Nat) (va : Option Addr) (vc : Nat) (qa : Option Addr) (qc : Nat), W.cell? (x.add (i * 8)) = some (.int .i64 o.q) ∧ W.cell? (x.add (i * 8 + 1)) = some (.int .i64 o.x) ∧ W.cell? (x.add (i * 8 + 2)) = some (.slice ka o.c.key.length kc) ∧ W.cell? (x.add (i * 8 + 3)) = some (.int .i64 o.c.kd) ∧ W.cell? (x.add (i * 8 + 4)) = some (.slice va o.c.val.length vc) ∧ W.cell? (x.add (i * 8 + 5)) = some (.int .i64 o.c.pg) ∧ W.cell? (x.add (i * 8 + 6)) = some (.int .i64 o.c.ct) ∧ W.cell? (x.add (i * 8 + 7)) = some (.slice qa o.key.length qc) ∧
    Sl W ka o.c.key.length kc o.c.key ∧ Sl W va o.c.val.length vc o.c.val ∧ Sl W qa o.key.length qc o.key ∧ o.c.key.length ≤ 140737488351232 ∧ o.c.val.length ≤ 140737488351232 ∧ o.key.length ≤ 140737488351232 := by
   intro n
   induction n with
   | zero => intro _; exact ⟨[], rfl, fun i c hc => by simp at hc⟩
   | succ n ih =>
    intro hn
    obtain ⟨cs, h1, h2⟩ := ih (by omega)
    obtain ⟨c, hc⟩ := each n (by omega)
    refine ⟨cs ++ [c], by simp [h1], fun i d hd => ?_⟩
    by_cases hin : i < n
    ·rw [zL (by omega)] at hd
     exact h2 i d hd
    ·have hi : i < (cs ++ [c]).length := (zH.1 hd).1
     simp only [zG, List.length_cons, List.length_nil] at hi
     obtain rfl : i = n := by omega
     rw [List.getElem?_append_right (by omega), h1] at hd
     simp at hd
     subst hd
     exact hc
  obtain ⟨os, hl1, hl2⟩ := hls len Lr
  refine ⟨some x, len, cap, os, rfl, ⟨hl1, hl, ?_⟩, hb, fun o ho => ?_⟩
  ·by_cases h0 : len = 0
   ·exact .inl h0
   ·obtain ⟨b, off, spot⟩ := x
    obtain ⟨c, hc⟩ : ∃ c, os[0]? = some c := ⟨_, zI (by omega)⟩
    obtain ⟨ka, kc, va, vc, qa, qc, h3, _⟩ := hl2 0 c hc
    have hspot : spot = none := by simpa [Addr.add] using World.cell?_spot h3
    subst hspot
    have hbl := World.block_lt_of_cell? W _ h3
    refine .inr ⟨b, off, rfl, by simpa [Addr.add] using hbl, fun i c hc => ?_⟩
    obtain ⟨ka, kc, va, vc, qa, qc, e0, e1, e2, e3, e4, e5, e6, e9, e7, e8, e10, _⟩ := hl2 i c hc
    simp only [Addr.add_lit] at e0 e1 e2 e3 e4 e5 e6 e9
    exact ⟨ka, kc, va, vc, qa, qc, e0, by rw [← e1]; simp [Nat.add_assoc], by rw [← e2]; simp [Nat.add_assoc], by rw [← e3]; simp [Nat.add_assoc], by rw [← e4]; simp [Nat.add_assoc], by rw [← e5]; simp [Nat.add_assoc], by rw [← e6]; simp [Nat.add_assoc], by rw [← e9]; simp [Nat.add_assoc], e7, e8, e10⟩
  ·obtain ⟨i, hi⟩ := List.getElem?_of_mem ho
   obtain ⟨ka, kc, va, vc, qa, qc, _, _, _, _, _, _, _, _, _, _, _, e⟩ := hl2 i o hi
   exact e
end Go.Proofs.YtofafbmpbkjhnaaGreatDoor
