import Derived.Test.YtbkhjeacmmbabaaGreatDoorJ15
import Derived.Lib.Overlaps
import Derived.Lib.SliceRun
import Derived.Lib.AppendZerosOnto
import Derived.Laws.IdiomCopy
import Derived.Deep.AppendSrc
namespace Go.Proofs.YtbkhjeacmmbabaaGreatDoor
set_option maxRecDepth 100000
set_option maxHeartbeats 4000000
open Go.RowKit
def RowE (w : World) (g : Nat) (e : TypeId) (c : Nat) : Prop := ∃ cur : Array Value, w.heap[g]? = some (.cells cur e (0, 0)) ∧ cur.size = c
theorem RowE.there {w : World} {g c : Nat} {e : TypeId} (h : RowE w g e c) {j : Nat} (hj : j < c) : (w.cell? ⟨g, j, none⟩).isSome = true := by
 obtain ⟨cur, h1, h2⟩ := h
 rw [cell_of_row _ _ _ _ _ _ h1]
 simp [h2, hj]
theorem RowE.free {w : World} {g c : Nat} {e : TypeId} (h : RowE w g e c) (j : Nat) : w.frozen? ⟨g, j, none⟩ = false := by
 obtain ⟨cur, h1, h2⟩ := h
 simp [World.frozen?, h1]
theorem RowE.lt {w : World} {g c : Nat} {e : TypeId} (h : RowE w g e c) : g < w.heap.size := by
 obtain ⟨cur, h1, h2⟩ := h
 exact zaf h1
theorem RowE.set {w : World} {g c : Nat} {e : TypeId} (h : RowE w g e c) (j : Nat) (v : Value) : RowE (w.setCell ⟨g, j, none⟩ v) g e c := by
 obtain ⟨cur, h1, h2⟩ := h
 exact ⟨_, zau h1, by simpa using h2⟩
theorem RowE.sets {g c : Nat} {e : TypeId} : ∀ (vs : List Value) (j : Nat) (w : World), RowE w g e c → RowE (w.setCells g j vs) g e c
 | [], _, _, h => h
 | v :: r, j, _, h => RowE.sets r (j + 1) _ (h.set j v)
theorem RowE.drewN {w : World} {g c : Nat} {e : TypeId} (h : RowE w g e c) (q : Nat) : RowE (w.drewN q) g e c := h
theorem RowE.cell {w : World} {g c : Nat} {e : TypeId} (h : RowE w g e c) (vs : List Value) (o : Nat) (ho : o + vs.length ≤ c) (k : Nat) :
  (w.setCells g o vs).cell? ⟨g, k, none⟩ = if o ≤ k ∧ k < o + vs.length then vs[k - o]? else w.cell? ⟨g, k, none⟩ := by
 by_cases A : o ≤ k ∧ k < o + vs.length
 ·rw [if_pos A]
  have := World.cell?_setCells_in g vs o w (fun j hj => h.there zq) (k - o) zq
  rw [show o + (k - o) = k by omega] at this
  rw [this]
  simp
 ·rw [if_neg A]
  exact World.cell?_setCells_out g vs o w ⟨g, k, none⟩ (fun _ _ => by show k < o ∨ o + vs.length ≤ k; omega)
theorem zcf (g : Nat) : ∀ (vs : List Value) (j : Nat) (w : World), w.grownBy (w.setCells g j vs) (some g)
 | [], _, _ => ⟨rfl, rfl, rfl, Lr, fun _ _ _ => rfl⟩
 | v :: r, j, w => by
  have h1 : w.grownBy (w.setCell ⟨g, j, none⟩ v) (some g) := ⟨rfl, rfl, rfl, zv, fun k _ hk => Below.heap_setCell _ _ _ _ (fun e => hk (by rw [e]))⟩
  have h2 := zcf g r (j + 1) (w.setCell ⟨g, j, none⟩ v)
  exact ⟨h2.os.trans h1.os, h2.tape.trans h1.tape, h2.output.trans h1.output, zN h1.size h2.size, fun z hz A => (h2.block z (zO hz h1.size) A).trans (h1.block z hz A)⟩
theorem grown_go {w w1 w2 : World} {row : Option Nat} (h : w.grownBy w1 row) (k : w1.grownBy w2 row) : w.grownBy w2 row :=
 ⟨k.os.trans h.os, k.tape.trans h.tape, k.output.trans h.output, zN h.size k.size, fun z hz A => (k.block z (zO hz h.size) A).trans (h.block z hz A)⟩
theorem grown_drew {w w1 : World} {row : Option Nat} (h : w.grownBy w1 row) : w.grownBy w1.drew row := ⟨h.os, h.tape, h.output, h.size, h.block⟩
theorem grown_refl (w : World) (row : Option Nat) : w.grownBy w row := ⟨rfl, rfl, rfl, Lr, fun _ _ _ => rfl⟩
theorem RowE.own {w : World} {g c n B : Nat} {e : TypeId} {xs : List Value} (h : RowE w g e c) (hc : c ≤ maxLen) (hB : B ≤ g) (hn : n ≤ c) (hx : xs.length = n) (A : ∀ i v, xs[i]? = some v → w.cell? ⟨g, i, none⟩ = some v) : w.ownsRow B e 1 (.slice (some ⟨g, 0, none⟩) n c) n xs := by
 obtain ⟨cur, h1, h2⟩ := h
 refine ⟨zq, .inr ⟨g, c, cur, rfl, hB, h1, hn, hc, zq, ?_⟩⟩
 rw [Nat.mul_one]
 apply List.ext_getElem?
 intro i
 by_cases hi : i < n
 ·have e1 : xs[i]? = some (xs[i]'zq) := zI _
  have := A i _ e1
  rw [cell_of_row _ _ _ _ _ _ h1] at this
  rw [List.getElem?_take_of_lt hi, e1, ← this]
  simp
 ·rw [List.getElem?_eq_none zso, List.getElem?_eq_none zq]
theorem zbq {w : World} {B n g c : Nat} {e : TypeId} {xs : List Value} (h : w.ownsRow B e 1 (.slice (some ⟨g, 0, none⟩) n c) n xs) : RowE w g e c ∧ B ≤ g ∧ n ≤ c ∧ c ≤ maxLen ∧ xs.length = n ∧ ∀ i v, xs[i]? = some v → w.cell? ⟨g, i, none⟩ = some v := by
 have hl := h.1
 rcases h.2 with ⟨e1, _⟩ | ⟨g', cap, cur, e1, h1, h2, h3, h4, h5, h6⟩
 ·injection e1 with e1 _ _
  cases e1
 ·injection e1 with e1 _ e3
  injection e1 with e1
  injection e1 with e1 _ _
  subst e1
  subst e3
  refine ⟨⟨cur, h2, zq⟩, h1, h3, h4, zq, fun i v hv => ?_⟩
  have := h.cellAt i (by have := (zH.1 hv).1; omega)
  rw [this, hv]
theorem moved {xs ys : List Value} {n m i j : Nat} (hx : xs.length = n) (hy : ys.length = m) (C : i ≤ j) (hj : j ≤ n) {f : Nat → Option Value}
  (h1 : ∀ k, k < i → f k = xs[k]?) (h2 : ∀ k, k < m → f (i + k) = ys[k]?) (h3 : ∀ k, k < n - j → f (i + m + k) = xs[j + k]?) : ∀ k v, (xs.take i ++ ys ++ xs.drop j)[k]? = some v → f k = some v := by
 intro k v hv
 have A : (xs.take i).length = i := by simp; omega
 by_cases hk : k < i
 ·rw [zM, zL zq, List.getElem?_take_of_lt hk] at hv
  rw [h1 k hk, hv]
 ·by_cases D : k < i + m
  ·rw [zM, List.getElem?_append_right zq, A, zL zq] at hv
   have := h2 (k - i) zq
   rw [show i + (k - i) = k by omega] at this
   rw [this, hv]
  ·have B := (zH.1 hv).1
   rw [zM, List.getElem?_append_right zq, A, List.getElem?_append_right zq, List.getElem?_drop, hy] at hv
   have E : k < i + m + (n - j) := by simp at B; omega
   have := h3 (k - i - m) zq
   rw [show i + m + (k - i - m) = k by omega] at this
   rw [this, hv]
theorem moved_len {xs ys : List Value} {n m i j : Nat} (hx : xs.length = n) (hy : ys.length = m) (A : i ≤ j) (hj : j ≤ n) : (xs.take i ++ ys ++ xs.drop j).length = i + m + (n - j) := by
 simp
 omega
theorem zdf {ops : Array Oper} {rest : List Oper} {o : Oper} {a : Act} {w : World} {Q : Exit → Act → World → Prop} (A : o.guard = none) (s x : Operand) (t1 t2 : TypeId)
  (ho : o.op = .call { callee := .builtin .append, args := #[s, x], argTypes := #[t1, t2] }) (v u : Value) (hs : a.eval s = v) (hx : a.eval x = u) {v' : Value} {w' : World}
  (hr : (Builtin.append_ #[t1, t2] o.type #[v, u]).run Tryz.prog w = .ok v' w') (h : wpList Tryz.prog ops Q rest (a.put o.dst v') w') : wpList Tryz.prog ops Q (o :: rest) a w := by
 refine wpList_plain A fun K hK => ?_
 unfold Oper.wp execOp
 simp only [ho, resolve, invoke, builtin, Sem.run_bind, Sem.run_pure, Result.andThen_ok, List.map_toArray, List.map_cons, List.map_nil, hs, hx, hr]
 exact hK _ _ h
end Go.Proofs.YtbkhjeacmmbabaaGreatDoor
namespace Go.Proofs.YtbkhjeacmmbabaaGreatDoor
set_option maxRecDepth 100000
set_option maxHeartbeats 4000000
open Go.RowKit
namespace RB
theorem hsz : (Tryz.prog.info? 5).map (·.size) = some 1 := by
 obtain ⟨i0, hi, B, A, C⟩ := info_parts info5
 rw [hi]
 simp [A]
theorem size_run (w : World) : (Go.sizeOf 5).run Tryz.prog w = .ok 1 w := by
 obtain ⟨i0, hi, B, A, C⟩ := info_parts info5
 simp [sizeOf, typeInfo, hi, A]
theorem over_no (w : World) (a b la ca lb cb oa ob kA kB : Nat) (A : a ≠ b) (ha : RowE w a 5 kA) (hb : RowE w b 5 kB) (B : kB ≠ 0) :
  (callFunc 149 #[.slice (some ⟨a, oa, none⟩) la ca, .slice (some ⟨b, ob, none⟩) lb cb]).run Tryz.prog w = .ok (.value (.bool false)) w := by
 have sh : ∀ {g c : Nat}, RowE w g 5 c → w.shape? g = some (5, c) := by
  rintro g c ⟨cur, h1, h2⟩
  simp [World.shape?, h1, h2]
 rw [run_callFunc_extern Tryz.func149 (by kernel_rfl) (by kernel_rfl) (by kernel_rfl) (e := Extern.SlicesOverlaps.overlaps #[22, 22] #[4]) (by kernel_rfl),
  Lib.run_overlaps_apart w 22 4 5 Tryz.underlying22 1 size_run ⟨a, oa, none⟩ ⟨b, ob, none⟩ la ca lb cb A 5 5 kA kB (sh ha) (sh hb) B (ha.free _) (ha.free _)]
 rfl
theorem copy_in (w : World) (ty : TypeId) (g c o dl dc so sl sc : Nat) (cs : List Value) (hr : RowE w g 5 c) (hl : cs.length = Nat.min sl dl) (ho : o + cs.length ≤ c) (hc : ∀ k v, cs[k]? = some v → w.cell? ⟨g, so + k, none⟩ = some v) (h1 : ∀ v ∈ cs, v.oneCell' = true) :
  (Builtin.copy_ #[22, 22] ty #[.slice (some ⟨g, o, none⟩) dl dc, .slice (some ⟨g, so, none⟩) sl sc]).run Tryz.prog w = .ok (goInt cs.length) (w.setCells g o cs) :=
 run_copy_cells w _ _ ty 5 g o dl dc ⟨g, so, none⟩ sl sc cs Tryz.underlying22 hsz hl (fun j v hj => by rw [Addr.add_lit]; exact hc j v hj) (fun j hj => hr.there zq) (fun j _ => hr.free _) h1
theorem copy_of (w : World) (ty : TypeId) (g c o dl dc : Nat) (vv : Value) (m C : Nat) (ys : List Value) (hr : RowE w g 5 c) (hv : w.ownsRow C 5 1 vv m ys) (A : m ≤ dl) (ho : o + m ≤ c) (h1 : ∀ v ∈ ys, v.oneCell' = true) :
  (Builtin.copy_ #[22, 22] ty #[.slice (some ⟨g, o, none⟩) dl dc, vv]).run Tryz.prog w = .ok (goInt (m : Int)) (w.setCells g o ys) := by
 have B := hv.1
 rcases hv.2 with ⟨rfl, h0⟩ | ⟨b, cap, cur, rfl, _⟩
 ·obtain rfl : ys = [] := List.eq_nil_of_length_eq_zero zq
  subst h0
  exact run_copy_none w _ _ ty 5 _ _ dl dc 0 0 Tryz.underlying22 hsz zv
 ·obtain ⟨_, _, _, _, hl, hc⟩ := zbq hv
  have := run_copy_cells w 22 22 ty 5 g o dl dc ⟨b, 0, none⟩ m cap ys Tryz.underlying22 hsz (by rw [hl]; simp only [Nat.min_def]; split <;> omega) (fun j v hj => by rw [Addr.add_lit, Nat.zero_add]; exact hc j v hj) (fun j hj => hr.there zq) (fun j _ => hr.free _) h1
  rwa [hl] at this
def To (w : World) (B : Nat) (v : Value) (n : Nat) (xs : List Value) (e : Ending) (w' : World) : Prop := ∃ ao c, e = .returned (.slice ao n c) ∧ Hid (w'.ownsRow B 5 1 (.slice ao n c) n xs) ∧ Hid (Gr w v w' (.slice ao n c))
theorem gr_in {w w' : World} {g n c n' c' : Nat} (h : w.grownBy w' (some g)) : Gr w (.slice (some ⟨g, 0, none⟩) n c) w' (.slice (some ⟨g, 0, none⟩) n' c') := ⟨h, .inl rfl⟩
theorem app_own {ops : Array Oper} {rest : List Oper} {o : Oper} {a : Act} {Q : Exit → Act → World → Prop} (w : World) (E : o.guard = none) (s x : Operand)
  (ho : o.op = .call { callee := .builtin .append, args := #[s, x], argTypes := #[22, 22] }) (B C n m : Nat) (xs ys : List Value) (v vv : Value) (hs : a.eval s = v) (hx : a.eval x = vv)
  (A : w.ownsRow B 5 1 v n xs) (hv : w.ownsRow C 5 1 vv m ys) (h1 : ∀ u ∈ ys, u.oneCell' = true) (hb : n + m ≤ 1000000) (D : B ≤ w.heap.size)
  (h : ∀ ao c w', w'.ownsRow B 5 1 (.slice ao (n + m) c) (n + m) (xs ++ ys) → Gr w v w' (.slice ao (n + m) c) → wpList Tryz.prog ops Q rest (a.put o.dst (.slice ao (n + m) c)) w') : wpList Tryz.prog ops Q (o :: rest) a w := by
 obtain ⟨i0, hi, F, G, H⟩ := info_parts info5
 have shp : ∀ {u : Value} {k : Nat} {zs : List Value} {w : World}, w.ownsRow B 5 1 u k zs → ∃ ao c, u = .slice ao k c := by
  intro u k zs w hu
  rcases hu.2 with ⟨rfl, h0⟩ | ⟨g, cap, cur, rfl, _⟩
  ·exact ⟨none, 0, by rw [h0]⟩
  ·exact ⟨_, _, rfl⟩
 have I := hv.1
 rcases hv.2 with ⟨rfl, h0⟩ | ⟨b, vcap, vcur, rfl, _⟩
 ·obtain rfl : ys = [] := List.eq_nil_of_length_eq_zero zq
  subst h0
  obtain ⟨ao, c, rfl⟩ := shp A
  exact wpList_append_own_none E s x 22 ho B 5 i0 1 Tryz.underlying22 hi _ n xs hs A hx (h ao c w (by simpa using A) (Gr.refl _ _))
 ·obtain ⟨_, _, _, _, hl, hc⟩ := zbq hv
  refine wpList_append_own_at w E s x 22 ho B 5 i0 (.int .u8 0) 1 1 Tryz.underlying22 hi F G H rfl zd v n xs hs A ⟨b, 0, none⟩ m vcap ys hx zq
   (fun j u hu => by rw [Addr.add_lit, Nat.zero_add]; exact hc j u hu) h1 zml zq D ?_
  intro v' w' g1 g2 g3 g4
  obtain ⟨ao, c, rfl⟩ := shp g1
  exact h ao c w' g1 ⟨g2, g4.imp id fun e => ⟨_, e, Lr⟩⟩
theorem app_zeros (w : World) (ty : TypeId) (B n i k g cap : Nat) (xs : List Value) (E : w.ownsRow B 5 1 (.slice (some ⟨g, 0, none⟩) n cap) n xs) (hi : i ≤ n) (hk : cap < i + k) (hb : i + k ≤ 1000000) :
  ∃ c w', (Builtin.append_ #[22, 3] ty #[.slice (some ⟨g, 0, none⟩) i cap, .int .i64 (k : Int)]).run Tryz.prog w = .ok (.slice (some ⟨w.heap.size, 0, none⟩) (i + k) c) w' ∧ RowE w' w.heap.size 5 c ∧ i + k ≤ c ∧ c ≤ maxLen ∧ (∀ t v, (xs.take i)[t]? = some v → w'.cell? ⟨w.heap.size, t, none⟩ = some v) ∧ Below w.heap.size w w' := by
 obtain ⟨i0, G, H, A, C⟩ := info_parts info5
 obtain ⟨_, _, K, _, hl, hc⟩ := zbq E
 have L : (xs.take i).length = i := by simp; omega
 have F : (Builtin.firstCells i0.size i (.slice (some ⟨g, 0, none⟩) i cap)).run Tryz.prog w.drew = .ok (xs.take i).toArray w.drew := by
  rw [A]
  refine run_firstCells_some w.drew 1 i ⟨g, 0, none⟩ i cap (xs.take i) zq (fun j v hj => ?_)
  rw [Addr.add_lit, Nat.zero_add]
  have D := (zH.1 hj).1
  rw [List.getElem?_take_of_lt zq] at hj
  exact hc j v hj
 have I := grownCap_ge w (i + k) cap 5
 have J := grownCap_le_maxLen w (i + k) cap 5 zml
 have hr := Lib.run_append_grow_zeros (P := Tryz.prog) w 22 3 ty 5 i0 (.int .u8 0) .i64 .i64 Tryz.underlying22 Tryz.underlying3 G H (some ⟨g, 0, none⟩) i cap (xs.take i) F k zq (by rw [A]; decide) hk zq (by rw [C]; omega) (by rw [C]; exact growslice_fits hk zq)
 refine ⟨_, _, hr, ⟨_, heap_alloc_last w.drew _, ?_⟩, I, J, fun t v ht => ?_, Br.drew.alloc Lr _⟩
 ·simp [Builtin.zeroCells, Value.cells]
  omega
 ·have D := (zH.1 ht).1
  have e : (w.drew.alloc (.cells ((xs.take i).toArray ++ Builtin.zeroCells (Value.int .u8 0).cells k ++ Builtin.zeroCells (Value.int .u8 0).cells (grownCap w (i + k) cap 5 - (i + k))) 5)).heap[w.heap.size]? = some (.cells ((xs.take i).toArray ++ Builtin.zeroCells (Value.int .u8 0).cells k ++ Builtin.zeroCells (Value.int .u8 0).cells (grownCap w (i + k) cap 5 - (i + k))) 5 (0, 0)) := heap_alloc_last w.drew _
  rw [cell_of_row _ _ _ _ _ _ e, Array.append_assoc, Array.getElem?_append_left (by simpa using D)]
  simpa using ht
theorem ins_end (w : World) (B C n m : Nat) (v vv : Value) (xs ys : List Value) (hs : w.ownsRow B 5 1 v n xs) (hv : w.ownsRow C 5 1 vv m ys) (A : ∀ u ∈ ys, u.oneCell' = true) (hb : n + m ≤ 1000000) (hB : B ≤ w.heap.size) (hm : 0 < m) :
  Calls Tryz.prog 148 #[v, .int .i64 (n : Int), vv] w (To w B v (n + m) (xs ++ ys)) := by
 have D : ¬ (m : Int) = 0 := zq
 have HS := zaa hs
 have HV := zaa hv
 have HY := zaa A
 obtain ⟨b, vc, rfl⟩ : ∃ b vc, vv = .slice (some ⟨b, 0, none⟩) m vc := by
  rcases hv.2 with ⟨_, h0⟩ | ⟨b, cap, cur, e, _⟩
  ·omega
  ·exact ⟨b, cap, e⟩
 rcases hs.2 with ⟨rfl, rfl⟩ | ⟨g, c, cur, rfl, _, _, E, _⟩
 ·clear hs hv A
  rw [Nat.zero_add]
  go_enter Tryz.func148, Tryz.ntmps148
  go_wp2_with (at_builtin; refine app_own _ rfl _ _ rfl B C 0 m xs ys _ _ rfl rfl HS.out HV.out HY.out hb hB ?_; refine Hid.out ?_)
  apply zaa
  intro ao c w' h1 h2
  have H1 := zaa h1
  have H2 := zaa h2
  clear h1 h2
  go_wp2
  go_ret
  exact ⟨ao, c, rfl, H1, H2⟩
 ·clear hs hv A
  by_cases hc : c = n
  ·subst hc
   go_enter Tryz.func148, Tryz.ntmps148
   go_wp2_with (at_builtin; refine app_own _ rfl _ _ rfl B C _ m xs ys _ _ rfl rfl HS.out HV.out HY.out hb hB ?_; refine Hid.out ?_)
   apply zaa
   intro ao c w' h1 h2
   have H1 := zaa h1
   have H2 := zaa h2
   clear h1 h2
   go_wp2
   go_ret
   exact ⟨ao, c, rfl, H1, H2⟩
  ·go_enter Tryz.func148, Tryz.ntmps148
   go_wp2_with (at_builtin; refine app_own _ rfl _ _ rfl B C n m xs ys _ _ rfl rfl HS.out HV.out HY.out hb hB ?_; refine Hid.out ?_)
   apply zaa
   intro ao c w' h1 h2
   have H1 := zaa h1
   have H2 := zaa h2
   clear h1 h2
   go_wp2
   go_ret
   exact ⟨ao, c, rfl, H1, H2⟩
theorem ins_grow (w : World) (B C n m i g c b vc : Nat) (xs ys : List Value) (hs : w.ownsRow B 5 1 (.slice (some ⟨g, 0, none⟩) n c) n xs) (hv : w.ownsRow C 5 1 (.slice (some ⟨b, 0, none⟩) m vc) m ys) (V : ∀ u ∈ xs, u.oneCell' = true) (W : ∀ u ∈ ys, u.oneCell' = true) (hi : i < n) (hb : n + m ≤ 1000000) (hB : B ≤ w.heap.size) (hm : 0 < m) (hg : c < n + m) :
  Calls Tryz.prog 148 #[.slice (some ⟨g, 0, none⟩) n c, .int .i64 (i : Int), .slice (some ⟨b, 0, none⟩) m vc] w (To w B (.slice (some ⟨g, 0, none⟩) n c) (n + m) (xs.take i ++ ys ++ xs.drop i)) := by
 obtain ⟨H, B1, B2, B3, M, X⟩ := zbq hs
 obtain ⟨_, _, B4, _, N, A4⟩ := zbq hv
 have B5 : ¬ (m : Int) = 0 := zq
 have B6 : ¬ (i : Int) = (n : Int) := zq
 have B7 : ¬ c = i := zq
 have B8 : (c : Int) < (n : Int) + (m : Int) := zq
 obtain ⟨k, hk⟩ : ∃ k : Nat, n + m - i = k := ⟨_, rfl⟩
 have B9 : (n : Int) + (m : Int) - (i : Int) = (k : Int) := zq
 obtain ⟨c2, w1, hr, L, A5, A1, J, A⟩ := app_zeros w 22 B n i k g c xs hs zq zq zq
 obtain ⟨G, hG⟩ : ∃ G, w.heap.size = G := ⟨_, rfl⟩
 have A6 : g ≠ G := by have := H.lt; omega
 have E : RowE w1 G 5 c2 := by rw [← hG]; exact L
 have Y : w1.ownsRow C 5 1 (.slice (some ⟨b, 0, none⟩) m vc) m ys := World.ownsRow.kept (row := none) hv ⟨A.os, A.tape, A.output, A.size, fun z hz _ => A.block z hz⟩ (.inr zsv)
 have Q := copy_of w1 3 G c2 i k (c2 - i) (.slice (some ⟨b, 0, none⟩) m vc) m C ys E Y zq zq W
 obtain ⟨w2, F⟩ : ∃ w2, w1.setCells G i ys = w2 := ⟨_, rfl⟩
 rw [F] at Q
 have D : RowE w2 G 5 c2 := by rw [← F]; exact RowE.sets _ _ _ E
 have Z : (xs.drop i).length = n - i := by simp; omega
 have R : w2.heap[g]? = w.heap[g]? := by
  rw [← F, World.heap_setCells_other _ _ _ _ (zO H.lt A.size) A6]
  exact A.block g H.lt
 have T : Hid (∀ q ty dl dc sl sc, Nat.min sl dl = n - i → (Builtin.copy_ #[22, 22] ty #[.slice (some ⟨G, i + m, none⟩) dl dc, .slice (some ⟨g, i, none⟩) sl sc]).run Tryz.prog (w2.drewN q) = .ok (goInt (xs.drop i).length) ((w2.drewN q).setCells G (i + m) (xs.drop i))) := zaa fun q ty dl dc sl sc A2 =>
  run_copy_cells (w2.drewN q) _ _ ty 5 G (i + m) dl dc ⟨g, i, none⟩ sl sc (xs.drop i) Tryz.underlying22 hsz (by rw [Z, A2])
   (fun j v hj => by
    rw [Addr.add_lit]
    have : (w2.drewN q).cell? ⟨g, i + j, none⟩ = w.cell? ⟨g, i + j, none⟩ := World.cell?_of_block (a := ⟨g, i + j, none⟩) R
    rw [this]
    exact X (i + j) v (by rwa [List.getElem?_drop] at hj))
   (fun j hj => (D.drewN q).there zq) (fun j _ => (D.drewN q).free _) (fun v hv => V v (List.mem_of_mem_drop hv))
 have K : Hid (∀ q, ((w2.drewN q).setCells G (i + m) (xs.drop i)).ownsRow B 5 1 (.slice (some ⟨G, 0, none⟩) (i + k) c2) (i + k) (xs.take i ++ ys ++ xs.drop i) ∧ Below w.heap.size w ((w2.drewN q).setCells G (i + m) (xs.drop i))) := zaa fun q => by
  refine ⟨RowE.own (RowE.sets _ _ _ (D.drewN q)) A1 zq A5 (by rw [moved_len M N Lr zq]; omega) (moved M N Lr zq (fun t ht => ?_) (fun t ht => ?_) (fun t ht => ?_)), ?_⟩
  ·rw [(D.drewN q).cell _ _ zq, if_neg zq]
   show w2.cell? _ = _
   rw [← F, E.cell _ _ zq, if_neg zq]
   have e1 : xs[t]? = some (xs[t]'zq) := zI _
   rw [e1]
   have := J t _ (by rw [List.getElem?_take_of_lt ht, e1])
   rw [hG] at this
   exact this
  ·rw [(D.drewN q).cell _ _ zq, if_neg zq]
   show w2.cell? _ = _
   rw [← F, E.cell _ _ zq, if_pos zq, Nat.add_sub_cancel_left]
  ·rw [(D.drewN q).cell _ _ zq, if_pos zq, Nat.add_sub_cancel_left, List.getElem?_drop]
  ·have h1 := zcf G (xs.drop i) (i + m) (w2.drewN q)
   have h2 := zcf G ys i w1
   rw [F] at h2
   refine ⟨h1.os.trans (h2.os.trans A.os), h1.tape.trans (h2.tape.trans A.tape), h1.output.trans (h2.output.trans A.output), zN A.size (zN h2.size h1.size), fun z hz => ?_⟩
   have A0 : some z ≠ some G := by intro e; injection e with e; omega
   exact (h1.block z (zO hz (zN A.size h2.size)) A0).trans ((h2.block z (zO hz A.size) A0).trans (A.block z hz))
 have C0 : (i : Int) ≤ (k : Int) + (i : Int) := zq
 have A8 : ¬ c2 = i := zq
 have A9 : ¬ c2 = i + m := zq
 have B0 : (i : Int) + (m : Int) ≤ (i : Int) + (k : Int) := zq
 have A7 : i + k = n + m := zq
 rw [hG] at hr
 rw [A7] at hr K
 have e1 : n + m - i = k := hk
 have e2 : n + m - (i + m) = k - m := zq
 clear hs hv V W H X A4 L E Y R D J A F M N Z hk
 go_enter Tryz.func148, Tryz.ntmps148
 go_wp2_with (at_builtin; refine zdf rfl _ _ _ _ rfl _ _ rfl rfl hr ?_; refine Hid.out ?_)
 apply zaa
 clear hr
 go_wp2_with fail
 clear Q
 have C1 : IntKind.i64.wrap ((i : Int) + (m : Int)) = (i : Int) + (m : Int) := by rw [IntKind.wrap_i64]; omega
 have A : (0 : Int) ≤ (i : Int) + (m : Int) := zq
 have C2 : ((i : Int) + (m : Int)).toNat = i + m := zq
 have C3 : (i : Int) + (m : Int) ≤ (n : Int) + (m : Int) := zq
 have C4 : (i : Int) ≤ (n : Int) := zq
 have C6 : i ≤ n := zq
 have A3 : (Builtin.copy_ #[22, 22] 3 #[.slice (some ⟨G, i + m, none⟩) (k - m) (c2 - (i + m)), .slice (some ⟨g, i, none⟩) (n - i) (c - i)]).run Tryz.prog w2.drew = .ok (goInt (xs.drop i).length) (w2.drew.setCells G (i + m) (xs.drop i)) := T.out 1 3 (k - m) (c2 - (i + m)) (n - i) (c - i) (by simp only [Nat.min_def]; split <;> omega)
 have O := zaa (K.out 1)
 obtain ⟨w3, P⟩ : ∃ w3, w2.drew.setCells G (i + m) (xs.drop i) = w3 := ⟨_, rfl⟩
 have U : (w2.drewN 1).setCells G (i + m) (xs.drop i) = w3 := P
 rw [U] at O
 rw [P] at A3
 clear P U T K
 go_region
 go_wp2
 go_ret
 refine ⟨some ⟨G, 0, none⟩, c2, rfl, zaa O.out.1, zaa ⟨?_, .inr ⟨G, rfl, zq⟩⟩⟩
 have I := O.out.2
 exact ⟨I.os, I.tape, I.output, I.size, fun z hz _ => I.block z hz⟩
theorem ins_shift (w : World) (B C n m i g c b vc : Nat) (xs ys : List Value) (hs : w.ownsRow B 5 1 (.slice (some ⟨g, 0, none⟩) n c) n xs) (hv : w.ownsRow C 5 1 (.slice (some ⟨b, 0, none⟩) m vc) m ys) (M : ∀ u ∈ xs, u.oneCell' = true) (N : ∀ u ∈ ys, u.oneCell' = true) (O : b ≠ g) (hi : i < n) (hb : n + m ≤ 1000000) (hm : 0 < m) (hg : n + m ≤ c) :
  Calls Tryz.prog 148 #[.slice (some ⟨g, 0, none⟩) n c, .int .i64 (i : Int), .slice (some ⟨b, 0, none⟩) m vc] w (To w B (.slice (some ⟨g, 0, none⟩) n c) (n + m) (xs.take i ++ ys ++ xs.drop i)) := by
 obtain ⟨D, U, A0, V, H, I⟩ := zbq hs
 obtain ⟨G, _, A1, _, J, W⟩ := zbq hv
 have A2 : ¬ (m : Int) = 0 := zq
 have A3 : ¬ (i : Int) = (n : Int) := zq
 have A4 : ¬ c = i := zq
 have Y : ¬ c = i + m := zq
 have A5 : ¬ (c : Int) < (n : Int) + (m : Int) := zq
 have Z : (n : Int) + (m : Int) ≤ (c : Int) := zq
 have P : (xs.drop i).length = n - i := by simp; omega
 have F : RowE w.drew g 5 c := D
 have X : ∀ lb cb, (callFunc 149 #[.slice (some ⟨b, 0, none⟩) m vc, .slice (some ⟨g, i + m, none⟩) lb cb]).run Tryz.prog w = .ok (.value (.bool false)) w := fun lb cb => over_no w b g m vc lb cb 0 (i + m) vc c O G D zq
 have R : (Builtin.copy_ #[22, 22] 3 #[.slice (some ⟨g, i + m, none⟩) (n - i) (c - (i + m)), .slice (some ⟨g, i, none⟩) (n + m - i) (c - i)]).run Tryz.prog w.drew = .ok (goInt (xs.drop i).length) (w.drew.setCells g (i + m) (xs.drop i)) :=
  copy_in w.drew 3 g c (i + m) (n - i) (c - (i + m)) i (n + m - i) (c - i) (xs.drop i) (D.drewN 1) (by rw [P]; simp only [Nat.min_def]; split <;> omega) zq (fun k v hk => I (i + k) v (by rwa [List.getElem?_drop] at hk)) (fun v hv => M v (List.mem_of_mem_drop hv))
 obtain ⟨w1, E⟩ : ∃ w1, w.drew.setCells g (i + m) (xs.drop i) = w1 := ⟨_, rfl⟩
 rw [E] at R
 have K : w.grownBy w1 (some g) := by rw [← E]; exact grown_go (grown_drew (grown_refl w _)) (zcf g _ _ _)
 have A : RowE w1 g 5 c := by rw [← E]; exact RowE.sets _ _ _ (D.drewN 1)
 have Q : w1.ownsRow C 5 1 (.slice (some ⟨b, 0, none⟩) m vc) m ys := World.ownsRow.kept hv K (.inr (by simp [Value.ownBlock]; exact O))
 have T := copy_of w1 3 g c i (n + m - i) (c - i) (.slice (some ⟨b, 0, none⟩) m vc) m C ys A Q zq zq N
 obtain ⟨w2, L⟩ : ∃ w2, w1.setCells g i ys = w2 := ⟨_, rfl⟩
 rw [L] at T
 have HE : Hid (w2.ownsRow B 5 1 (.slice (some ⟨g, 0, none⟩) (n + m) c) (n + m) (xs.take i ++ ys ++ xs.drop i) ∧ w.grownBy w2 (some g)) := zaa (by
  rw [← L]
  refine ⟨RowE.own (RowE.sets _ _ _ A) V U hg (by rw [moved_len H J Lr zq]; omega) (moved H J Lr zq (fun t ht => ?_) (fun t ht => ?_) (fun t ht => ?_)), grown_go K (zcf g _ _ _)⟩
  ·rw [A.cell _ _ zq, if_neg zq, ← E, F.cell _ _ zq, if_neg zq]
   have e1 : xs[t]? = some (xs[t]'zq) := zI _
   rw [e1]
   exact I t _ e1
  ·rw [A.cell _ _ zq, if_pos zq, Nat.add_sub_cancel_left]
  ·rw [A.cell _ _ zq, if_neg zq, ← E, F.cell _ _ zq, if_pos zq, Nat.add_sub_cancel_left, List.getElem?_drop])
 have A6 : IntKind.i64.wrap ((i : Int) + (m : Int)) = (i : Int) + (m : Int) := by rw [IntKind.wrap_i64]; omega
 have A7 : (0 : Int) ≤ (i : Int) + (m : Int) := zq
 have A8 : ((i : Int) + (m : Int)).toNat = i + m := zq
 have A9 : (i : Int) + (m : Int) ≤ (n : Int) + (m : Int) := zq
 have B0 : (i : Int) ≤ (n : Int) + (m : Int) := zq
 have B1 : i ≤ n := zq
 have B2 : i ≤ n + m := zq
 have e2 : n + m - (i + m) = n - i := zq
 clear hs hv M N D F G I W A Q E L H J P K
 go_enter Tryz.func148, Tryz.ntmps148
 go_wp2_with (simp only [X])
 go_region
 go_wp2
 go_ret
 exact ⟨some ⟨g, 0, none⟩, c, rfl, zaa HE.out.1, zaa (gr_in HE.out.2)⟩
theorem ins_any (w : World) (B C n m i : Nat) (v vv : Value) (xs ys : List Value) (hs : w.ownsRow B 5 1 v n xs) (hv : w.ownsRow C 5 1 vv m ys) (D : ∀ u ∈ xs, u.oneCell' = true) (A : ∀ u ∈ ys, u.oneCell' = true) (E : vv.ownBlock = none ∨ vv.ownBlock ≠ v.ownBlock) (hi : i ≤ n) (hb : n + m ≤ 1000000) (hB : B ≤ w.heap.size) (hm : 0 < m) :
  Calls Tryz.prog 148 #[v, .int .i64 (i : Int), vv] w (To w B v (n + m) (xs.take i ++ ys ++ xs.drop i)) := by
 have G := hs.1
 by_cases F : i = n
 ·subst F
  have := ins_end w B C i m v vv xs ys hs hv A hb hB hm
  rwa [List.take_of_length_le zq, List.drop_eq_nil_of_le zq, List.append_nil]
 ·rcases hs.2 with ⟨_, h0⟩ | ⟨g, c, cur, rfl, _⟩
  ·omega
  rcases hv.2 with ⟨_, h0⟩ | ⟨b, vc, vcur, rfl, _⟩
  ·omega
  by_cases hg : n + m ≤ c
  ·refine ins_shift w B C n m i g c b vc xs ys hs hv D A ?_ zq hb hm hg
   rcases E with e | e
   ·cases e
   ·exact fun e2 => e (by rw [e2]; rfl)
  ·exact ins_grow w B C n m i g c b vc xs ys hs hv D A zq hb hB hm zq
end RB
end Go.Proofs.YtbkhjeacmmbabaaGreatDoor
namespace Go.Proofs.YtbkhjeacmmbabaaGreatDoor
set_option maxRecDepth 100000
set_option maxHeartbeats 4000000
open Go.RowKit
namespace RB
theorem shape {w : World} {B n : Nat} {v : Value} {xs : List Value} (h : w.ownsRow B 5 1 v n xs) : ∃ ao c, v = .slice ao n c := by
 rcases h.2 with ⟨rfl, h0⟩ | ⟨g, cap, cur, rfl, _⟩
 ·exact ⟨none, 0, by rw [h0]⟩
 ·exact ⟨_, _, rfl⟩
theorem rep_eq (w : World) (B C n m i j : Nat) (v vv : Value) (xs ys : List Value) (hs : w.ownsRow B 5 1 v n xs) (hv : w.ownsRow C 5 1 vv m ys) (A : ∀ u ∈ xs, u.oneCell' = true) (D : ∀ u ∈ ys, u.oneCell' = true) (E : vv.ownBlock = none ∨ vv.ownBlock ≠ v.ownBlock) (I : i ≤ j) (hj : j ≤ n) (hb : n + m ≤ 1000000) (hB : B ≤ w.heap.size) (hm : i < j ∨ 0 < m) (h : i = j) :
  Calls Tryz.prog 114 #[v, .int .i64 (i : Int), .int .i64 (j : Int), vv] w (To w B v (i + m + (n - j)) (xs.take i ++ ys ++ xs.drop j)) := by
 have F := hs.1
 subst h
 have HI := zaa (ins_any w B C n m i v vv xs ys hs hv A D E hj hb hB zq)
 rw [show i + m + (n - i) = n + m by omega]
 obtain ⟨ao, c, rfl⟩ := shape hs
 obtain ⟨bo, d, rfl⟩ := shape hv
 have J : n ≤ c := by
  rcases hs.2 with ⟨e, h0⟩ | ⟨g, cap, cur, e, _, _, h3, _⟩
  ·omega
  ·injection e with _ _ e3
   omega
 have K : (i : Int) ≤ (n : Int) := zq
 have L : (i : Int) ≤ (c : Int) := zq
 have H : i ≤ c := zq
 clear hs hv A D E F
 by_cases G : c = i
 ·subst G
  go_enter Tryz.func114, Tryz.ntmps114
  go_wp2_with (go_at_call 148; refine HI.out.mono ?_; rintro e w1 ⟨a1, c1, rfl, H1, H2⟩)
  go_ret
  exact ⟨a1, c1, rfl, H1, H2⟩
 ·go_enter Tryz.func114, Tryz.ntmps114
  go_wp2_with (go_at_call 148; refine HI.out.mono ?_; rintro e w1 ⟨a1, c1, rfl, H1, H2⟩)
  go_ret
  exact ⟨a1, c1, rfl, H1, H2⟩
end RB
end Go.Proofs.YtbkhjeacmmbabaaGreatDoor
