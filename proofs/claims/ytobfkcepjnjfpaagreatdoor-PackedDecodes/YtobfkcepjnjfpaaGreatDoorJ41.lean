/- Layer 7: what Decode of both sides hands out, as the law holds it. -/
import Derived.Test.YtobfkcepjnjfpaaGreatDoorJ34
import Derived.Test.YtobfkcepjnjfpaaGreatDoorJ40
namespace Go.Proofs.YtobfkcepjnjfpaaGreatDoor
open Go.RowKit

set_option maxRecDepth 100000 in
/-- Blocks from B on stay where one below it is written. -/
theorem OwnB.gr7 {w w' : World} {B g : Nat} {v : Value} {l : List Int} (h : OwnB w B v l) (hg : w.grownBy w' (some g)) (hB : g < B) : OwnB w' B v l := by
  unfold OwnB at *
  refine World.ownsRow.kept h hg ?_
  cases hv : v.ownBlock with
  | none => exact .inl rfl
  | some z =>
    right
    intro e
    injection e with e
    have := (World.ownsRow.lt h z hv).1
    omega
set_option maxRecDepth 100000 in
theorem OwnD.gr7 {w w' : World} {B g : Nat} {v : Value} {cs : List Cl} (h : OwnD w B v cs) (hg : w.grownBy w' (some g)) (hB : g < B) : OwnD w' B v cs := by
  obtain ⟨vs, h1, h2⟩ := h
  refine ⟨vs, World.ownsRow.kept h1 hg ?_, h2.keep (fun v l h => h.gr7 hg hB)⟩
  cases hv : v.ownBlock with
  | none => exact .inl rfl
  | some z =>
    right
    intro e
    injection e with e
    have := (World.ownsRow.lt h1 z hv).1
    omega
/-- A row of cells of one's own, its values known. -/
def Ov7 (w : World) (B hi g : Nat) (cs : List Cl) (vs : List Value) : Prop := w.ownsRow B 37 5 (.slice (some ⟨g, 0, none⟩) cs.length cs.length) cs.length vs ∧ R5B w B vs cs ∧ Ds7 (kvs vs) B hi
set_option maxRecDepth 100000 in
theorem Ov7.own {w : World} {B hi g : Nat} {cs : List Cl} {vs : List Value} (h : Ov7 w B hi g cs vs) : OwnD w B (.slice (some ⟨g, 0, none⟩) cs.length cs.length) cs := ⟨vs, h.1, h.2.1⟩
set_option maxRecDepth 100000 in
theorem Ov7.on {w w' : World} {B hi g : Nat} {cs : List Cl} {vs : List Value} (h : Ov7 w B hi g cs vs) (hb : Below w.heap.size w w') : Ov7 w' B hi g cs vs :=
  ⟨World.ownsRow.kept (row := none) h.1 ⟨hb.os, hb.tape, hb.output, hb.size, fun k hk _ => hb.block k hk⟩ (.inr (by simp [Value.ownBlock])), h.2.1.keep (fun v l h => h.on (Nat.le_refl _) hb), h.2.2⟩
set_option maxRecDepth 100000 in
theorem Ov7.gr7 {w w' : World} {B hi g j : Nat} {cs : List Cl} {vs : List Value} (h : Ov7 w B hi g cs vs) (hg : w.grownBy w' (some j)) (hB : j < B) : Ov7 w' B hi g cs vs :=
  ⟨World.ownsRow.kept h.1 hg (.inr (by
    intro e
    simp only [Value.ownBlock] at e
    injection e with e
    have := (World.ownsRow.lt h.1 g rfl).1
    omega)), h.2.1.keep (fun v l h => h.gr7 hg hB), h.2.2⟩
set_option maxRecDepth 100000 in
theorem up_le {P : Nat → Nat} {n : Nat} (h : ∀ i, i < n → P i ≤ P (i + 1)) : ∀ {i j : Nat}, i ≤ j → j ≤ n → P i ≤ P j
  | i, 0, hij, _ => by rw [show i = 0 by omega]; exact Nat.le_refl _
  | i, j + 1, hij, hj => by
    by_cases e : i = j + 1
    · rw [e]; exact Nat.le_refl _
    · exact Nat.le_trans (up_le h (i := i) (j := j) (by omega) (by omega)) (h j (by omega))
set_option maxRecDepth 100000 in
/-- Our Decode's cells. -/
theorem ov7_of {w : World} {B g hi : Nat} {cs : List Cl} {P : Nat → Nat} (hg : B ≤ g) (hr : RowC w g cs.length) (hP : B ≤ P 0 ∧ (∀ i, i < cs.length → P i ≤ P (i + 1)) ∧ P cs.length ≤ hi) (hk : ∀ i d, cs[i]? = some d → KXt w (P i) (P (i + 1)) g (i * 5) d) (hf : ∀ d ∈ cs, d.key.length ≤ 65536 ∧ d.val.length ≤ 65536) (hn : cs.length ≤ 200000) : ∃ vs, Ov7 w B hi g cs vs := by
  obtain ⟨cur, h1, h2⟩ := hr
  have hcell : ∀ o, w.cell? ⟨g, o, none⟩ = cur.toList[o]? := fun o => by simp [World.cell?, h1]
  have hlen : cur.toList.length = 5 * cs.length := by rw [Array.length_toList]; exact h2
  have hlow : ∀ i, i ≤ cs.length → B ≤ P i := fun i hi => Nat.le_trans hP.1 (up_le hP.2.1 (Nat.zero_le _) hi)
  have hr5 : R5B w B cur.toList cs := R5B.of cs _ hlen (fun i d hd => by
    obtain ⟨a1, c1, g2, q0, q1, q2, q3, q4, o1, o2, q5, q6, q7, q8⟩ := hk i d hd
    have hil : i < cs.length := (List.getElem?_eq_some_iff.1 hd).1
    rw [hcell] at q0 q1 q2 q3 q4
    exact ⟨a1, c1, _, _, q0, q1, q2, q3, q4, o1.low (hlow i (by omega)), o2.own7 (Nat.le_trans (hlow i (by omega)) q6) rfl (by have := (hf d (List.mem_of_getElem? hd)).2; omega)⟩)
  refine ⟨cur.toList, ⟨by omega, .inr ⟨g, cs.length, cur, rfl, hg, h1, Nat.le_refl _, by unfold maxLen; omega, by omega, List.take_of_length_le (by omega)⟩⟩, hr5, ?_⟩
  have hkl := hr5.kvs_len
  have key : ∀ (t : Nat) (u : Value) (z : Nat), (kvs cur.toList)[t]? = some u → u.ownBlock = some z → P (t / 2) ≤ z ∧ z < P (t / 2 + 1) ∧ t / 2 < cs.length := by
    intro t u z ht hz
    have htl : t < 2 * cs.length := by have := (List.getElem?_eq_some_iff.1 ht).1; omega
    obtain ⟨d, hd⟩ : ∃ d, cs[t / 2]? = some d := ⟨_, List.getElem?_eq_getElem (by omega)⟩
    obtain ⟨a1, c1, g2, q0, q1, q2, q3, q4, o1, o2, q5, q6, q7, q8⟩ := hk _ d hd
    obtain ⟨ka, kc, va, vc, p0, _, p2, _, _, _, _, e0, e1⟩ := R5B.at (t / 2) d hr5 hd
    rw [hcell] at q0 q2
    rw [p0] at q0
    rw [p2] at q2
    have ht2 : t = 2 * (t / 2) ∨ t = 2 * (t / 2) + 1 := by omega
    rcases ht2 with e | e
    · rw [e, e0] at ht
      injection ht with ht
      injection q0 with q0
      rw [← ht, q0] at hz
      unfold OwnB at o1
      exact ⟨(World.ownsRow.lt o1 z hz).1, q5 z hz, by omega⟩
    · rw [e, e1] at ht
      injection ht with ht
      injection q2 with q2
      rw [← ht, q2] at hz
      simp only [Value.ownBlock] at hz
      injection hz with hz
      subst hz
      exact ⟨q6, q7, by omega⟩
  refine ⟨fun t t' u u' ht ht' hne => ne_of7 fun z z' hz hz' => ?_, fun t u z ht hz => ?_⟩
  · obtain ⟨k1, k2, k3⟩ := key t u z ht hz
    obtain ⟨k4, k5, k6⟩ := key t' u' z' ht' hz'
    by_cases e1 : t / 2 < t' / 2
    · have := up_le hP.2.1 (i := t / 2 + 1) (j := t' / 2) (by omega) (by omega)
      omega
    · by_cases e2 : t' / 2 < t / 2
      · have := up_le hP.2.1 (i := t' / 2 + 1) (j := t / 2) (by omega) (by omega)
        omega
      · have e3 : t / 2 = t' / 2 := by omega
        obtain ⟨d, hd⟩ : ∃ d, cs[t / 2]? = some d := ⟨_, List.getElem?_eq_getElem (by omega)⟩
        obtain ⟨a1, c1, g2, q0, q1, q2, q3, q4, o1, o2, q5, q6, q7, q8⟩ := hk _ d hd
        obtain ⟨ka, kc, va, vc, p0, _, p2, _, _, _, _, e0, e1'⟩ := R5B.at (t / 2) d hr5 hd
        rw [hcell] at q0 q2
        rw [p0] at q0
        rw [p2] at q2
        injection q0 with q0
        injection q2 with q2
        rw [q0] at e0
        rw [q2] at e1'
        have h2c : (t = 2 * (t / 2) ∧ t' = 2 * (t / 2) + 1) ∨ (t = 2 * (t / 2) + 1 ∧ t' = 2 * (t / 2)) := by omega
        rcases h2c with ⟨x1, x2⟩ | ⟨x1, x2⟩
        · rw [x1, e0] at ht
          rw [x2, e1'] at ht'
          injection ht with ht
          injection ht' with ht'
          subst ht ht'
          simp only [Value.ownBlock] at hz'
          injection hz' with hz'
          intro e
          exact q8 (by rw [hz, e, hz'])
        · rw [x1, e1'] at ht
          rw [x2, e0] at ht'
          injection ht with ht
          injection ht' with ht'
          subst ht ht'
          simp only [Value.ownBlock] at hz
          injection hz with hz
          intro e
          exact q8 (by rw [hz', ← e, hz])
  · obtain ⟨k1, k2, k3⟩ := key t u z ht hz
    have h3 := hlow (t / 2) (by omega)
    have h4 := up_le hP.2.1 (i := t / 2 + 1) (j := cs.length) (by omega) (Nat.le_refl _)
    have h5 := hP.2.2
    omega
end Go.Proofs.YtobfkcepjnjfpaaGreatDoor

/- Layer 7: rows of cells that are all alike, and their growth. -/

namespace Go.Proofs.YtobfkcepjnjfpaaGreatDoor
open Go.RowKit

/-- A cell that has its kind alone. -/
def cz7 (x : Int) : List Value := [.slice none 0 0, .int .i64 x, .slice none 0 0, .int .i64 0, .int .i64 0]
def rz7 (x : Int) : Nat → List Value
  | 0 => []
  | n + 1 => rz7 x n ++ cz7 x
set_option maxRecDepth 100000 in
theorem rz7_len (x : Int) : ∀ n, (rz7 x n).length = n * 5
  | 0 => rfl
  | n + 1 => by
    have := rz7_len x n
    simp only [rz7, cz7, List.length_append, List.length_cons, List.length_nil]
    omega
set_option maxRecDepth 100000 in
theorem rz7_at (x : Int) : ∀ (n i t : Nat), i < n → t < 5 → (rz7 x n)[i * 5 + t]? = (cz7 x)[t]?
  | 0, i, t, h, _ => by omega
  | n + 1, i, t, h, ht => by
    have hl := rz7_len x n
    by_cases hi : i < n
    · simp only [rz7]
      rw [List.getElem?_append_left (by omega)]
      exact rz7_at x n i t hi ht
    · obtain rfl : i = n := by omega
      simp only [rz7]
      rw [List.getElem?_append_right (by omega), hl]
      congr 1
      omega
set_option maxRecDepth 100000 in
theorem cz7_one (x : Int) : ∀ u ∈ cz7 x, u.oneCell' = true := by
  intro u hu
  simp only [cz7, List.mem_cons, List.not_mem_nil, or_false] at hu
  rcases hu with rfl | rfl | rfl | rfl | rfl <;> rfl
/-- Where an append of one cell leaves the row. -/
def Mv7 (w : World) (v : Value) (w' : World) (v' : Value) : Prop := (v'.ownBlock = v.ownBlock ∧ w.grownBy w' v.ownBlock) ∨ (v'.ownBlock = some w.heap.size ∧ Below w.heap.size w w')
set_option maxRecDepth 100000 in
theorem run_cz7 (w : World) (ty : TypeId) (B : Nat) (v : Value) (n : Nat) (xs : List Value) (x : Int) (b : Nat) (hown : w.ownsRow B 37 5 v n xs) (hc : ∀ j u, (cz7 x)[j]? = some u → w.cell? ⟨b, 0 + j, none⟩ = some u) (hn : n + 1 ≤ 300000) (hB : B ≤ w.heap.size) :
    ∃ v' w', (Builtin.append_ #[25, 25] ty #[v, .slice (some ⟨b, 0, none⟩) 1 1]).run Tryz.prog w = .ok v' w' ∧ w'.ownsRow B 37 5 v' (n + 1) (xs ++ cz7 x) ∧ Mv7 w v w' v' := by
  obtain ⟨i0, hi, hz0, hz1, hz2⟩ := info_parts infoC
  have hnews : ∀ j u, (cz7 x)[j]? = some u → w.cell? ((⟨b, 0, none⟩ : Addr).add j) = some u := fun j u hu => by
    rw [Addr.add_lit]
    exact hc j u hu
  obtain ⟨v', w', hr, h2, h3, h4, h5⟩ := run_append_own_at (P := Tryz.prog) w B 25 ty 37 i0 _ 5 72 Tryz.underlying25 hi hz0 hz1 hz2 rfl (by decide) v n xs hown ⟨b, 0, none⟩ 1 1 (cz7 x) rfl hnews (cz7_one x) (by unfold maxLen; omega) (by omega) hB
  refine ⟨v', w', hr, h2, ?_⟩
  rcases hown.2 with ⟨rfl, h0⟩ | ⟨g, cap, cur, rfl, hg, hh, hnc, hm, hs, ht⟩
  · rcases h5 with h5 | h5
    · exact .inl ⟨h5, h3⟩
    · exact .inr ⟨h5, ⟨h3.os, h3.tape, h3.output, h3.size, fun k hk => h3.block k hk (by simp [Value.ownBlock])⟩⟩
  · by_cases hroom : n + 1 ≤ cap
    · have hr2 := run_append_room (P := Tryz.prog) w 25 ty 37 i0 Tryz.underlying25 hi g n cap cur hh ⟨b, 0, none⟩ 1 1 (cz7 x) (by rw [hz1]; rfl) hnews (cz7_one x) hroom (by rw [hs, hz1]; simp only [cz7, List.length_cons, List.length_nil]; omega)
      rw [hr] at hr2
      injection hr2 with e1 e2
      left
      exact ⟨by rw [e1]; rfl, h3⟩
    · have hr2 := run_append_grow (P := Tryz.prog) w 25 ty 37 i0 _ Tryz.underlying25 hi hz0 ⟨g, 0, none⟩ n cap xs (by rw [hz1]; exact hown.1) (World.ownsRow.cells hown (g := g) rfl) ⟨b, 0, none⟩ 1 1 (cz7 x) (by rw [hz1]; rfl) hnews (by omega) (by omega) (growslice_fits (by omega) (by rw [hz2]; omega))
      rw [hr] at hr2
      injection hr2 with e1 e2
      right
      refine ⟨by rw [e1]; rfl, ?_⟩
      rw [e2]
      exact bl_al (Below.refl _ _).drew (Nat.le_refl _) _
set_option maxRecDepth 100000 in
theorem app_cz7 {ops : Array Oper} {rest : List Oper} {o : Oper} {a : Act} {Q : Exit → Act → World → Prop} (w : World) (hgd : o.guard = none) (s y : Operand)
    (ho : o.op = .call { callee := .builtin .append, args := #[s, y], argTypes := #[25, 25] }) (B : Nat) (n : Nat) (x : Int) (v : Value) (b : Nat) (hs : a.eval s = v) (hx : a.eval y = .slice (some ⟨b, 0, none⟩) 1 1)
    (hown : w.ownsRow B 37 5 v n (rz7 x n)) (hc : ∀ j u, (cz7 x)[j]? = some u → w.cell? ⟨b, 0 + j, none⟩ = some u) (hn : n + 1 ≤ 300000) (hB : B ≤ w.heap.size)
    (h : ∀ v' w', Hid (w'.ownsRow B 37 5 v' (n + 1) (rz7 x (n + 1))) → Hid (Mv7 w v w' v') → wpList Tryz.prog ops Q rest (a.put o.dst v') w') : wpList Tryz.prog ops Q (o :: rest) a w := by
  obtain ⟨v', w', hr, h2, h3⟩ := run_cz7 w o.type B v n (rz7 x n) x b hown hc hn hB
  refine wpList_plain hgd fun K hK => ?_
  unfold Oper.wp execOp
  simp only [ho, resolve, invoke, builtin, Sem.run_bind, Sem.run_pure, Result.andThen_ok, List.map_toArray, List.map_cons, List.map_nil, hs, hx, hr]
  exact hK _ _ (h v' w' (hidden h2) (hidden h3))
end Go.Proofs.YtobfkcepjnjfpaaGreatDoor

/- Layer 7: two rows of cells that are written full and grown: plain words. -/

namespace Go.Proofs.YtobfkcepjnjfpaaGreatDoor
open Go.RowKit

/-- The first j cells of the block are written. -/
def A7 (w : World) (C g n cap j : Nat) (x : Int) : Prop := C ≤ g ∧ n ≤ cap ∧ cap ≤ 300000 ∧ RowC w g cap ∧ ∀ i, i < j → ∀ t u, (cz7 x)[t]? = some u → w.cell? ⟨g, i * 5 + t, none⟩ = some u
set_option maxRecDepth 100000 in
theorem A7.set {w : World} {C g n cap j : Nat} {x : Int} (h : A7 w C g n cap j x) (hj : j < n) : A7 (w.setCells g (j * 5) (cz7 x)) C g n cap (j + 1) x := by
  obtain ⟨hC, h1, h2, h3, h4⟩ := h
  refine ⟨hC, h1, h2, RowC.sets _ _ _ h3, fun i hi t u ht => ?_⟩
  have ht5 : t < 5 := (List.getElem?_eq_some_iff.1 ht).1
  by_cases hij : i < j
  · have ho : (w.setCells g (j * 5) (cz7 x)).cell? ⟨g, i * 5 + t, none⟩ = w.cell? ⟨g, i * 5 + t, none⟩ := World.cell?_setCells_out g _ _ w _ (fun _ _ => .inl (by simp only; omega))
    exact ho.trans (h4 i hij t u ht)
  · obtain rfl : i = j := by omega
    exact World.rangeAt_setCells_same w g (i * 5) (cz7 x) (h3.there (by omega)) t u ht
set_option maxRecDepth 100000 in
theorem Cf.sets7 {g : Nat} : ∀ (vs : List Value) (j : Nat) (w : World), Cf (· = g) w (w.setCells g j vs)
  | [], _, w => Cf.refl _ w
  | v :: r, j, w => (Cf.set w g j v).trans (Cf.sets7 r (j + 1) _) (fun _ _ h => h)
set_option maxRecDepth 100000 in
theorem A7.cf {F : Nat → Prop} {w u : World} {C g n cap j : Nat} {x : Int} (h : A7 w C g n cap j x) (hc : Cf F w u) (hg : ¬ F g) : A7 u C g n cap j x := by
  obtain ⟨hC, h1, h2, h3, h4⟩ := h
  have e := hc.block g h3.lt hg
  refine ⟨hC, h1, h2, ?_, fun i hi t v ht => (cell_eq7 e _).trans (h4 i hi t v ht)⟩
  obtain ⟨cur, a1, a2⟩ := h3
  exact ⟨cur, e.trans a1, a2⟩
set_option maxRecDepth 100000 in
theorem A7.own {w : World} {C g n cap : Nat} {x : Int} (h : A7 w C g n cap n x) : w.ownsRow C 37 5 (.slice (some ⟨g, 0, none⟩) n cap) n (rz7 x n) := by
  obtain ⟨hC, h1, h2, ⟨cur, h3, h5⟩, h4⟩ := h
  refine ⟨rz7_len x n, .inr ⟨g, cap, cur, rfl, hC, h3, h1, by unfold maxLen; omega, by omega, ?_⟩⟩
  apply List.ext_getElem?
  intro q
  by_cases hq : q < n * 5
  · rw [List.getElem?_take_of_lt hq]
    have hqe : q = q / 5 * 5 + q % 5 := by omega
    have hz := rz7_at x n (q / 5) (q % 5) (by omega) (by omega)
    rw [← hqe] at hz
    rw [hz]
    obtain ⟨u, hu⟩ : ∃ u, (cz7 x)[q % 5]? = some u := ⟨_, List.getElem?_eq_getElem (by simp only [cz7, List.length_cons, List.length_nil]; omega)⟩
    have := h4 (q / 5) (by omega) (q % 5) u hu
    rw [← hqe] at this
    rw [hu, ← this]
    simp [World.cell?, h3]
  · rw [List.getElem?_eq_none (by rw [List.length_take]; omega), List.getElem?_eq_none (by rw [rz7_len]; omega)]
/-- The cells' kinds, as they are read. -/
def Re7 (w : World) (g n : Nat) (x : Int) : Prop := ∀ i, i < n → w.cell? ⟨g, i * 5 + 1, none⟩ = some (.int .i64 x)
set_option maxRecDepth 100000 in
theorem Re7.lt {w : World} {g n : Nat} {x : Int} (h : Re7 w g n x) (hn : 0 < n) : g < w.heap.size := by
  have h0 := h 0 hn
  by_cases hg : g < w.heap.size
  · exact hg
  · exfalso
    have e : w.heap[g]? = none := by simp; omega
    simp [World.cell?, e] at h0
set_option maxRecDepth 100000 in
theorem Re7.of_own {w : World} {B : Nat} {v : Value} {N n g : Nat} {x : Int} (h : w.ownsRow B 37 5 v N (rz7 x N)) (hv : v.ownBlock = some g) (hn : n ≤ N) : Re7 w g n x := fun i hi => by
  have := World.ownsRow.cells h hv (i * 5 + 1) (.int .i64 x) (by rw [rz7_at x N i 1 (by omega) (by omega)]; rfl)
  rw [Addr.add_lit, Nat.zero_add] at this
  exact this
set_option maxRecDepth 100000 in
theorem Re7.same {w u : World} {g n : Nat} {x : Int} (h : Re7 w g n x) (he : 0 < n → u.heap[g]? = w.heap[g]?) : Re7 u g n x := fun i hi => (cell_eq7 (he (by omega)) _).trans (h i hi)
/-- Two rows while they grow. -/
structure Ap7 (w : World) (C : Nat) (v u : Value) (N M n m ga gb : Nat) (x y : Int) : Prop where
  c : w.ownsRow C 37 5 v N (rz7 x N)
  d : w.ownsRow C 37 5 u M (rz7 y M)
  ra : Re7 w ga n x
  rb : Re7 w gb m y
  cd : v.ownBlock = none ∨ v.ownBlock ≠ u.ownBlock
  cb : m = 0 ∨ v.ownBlock ≠ some gb
  da : n = 0 ∨ u.ownBlock ≠ some ga
  nN : n ≤ N
  mM : m ≤ M
set_option maxRecDepth 100000 in
theorem Mv7.below {w w' : World} {v v' : Value} {C n : Nat} {t : TypeId} {xs : List Value} (h : w.ownsRow C t 5 v n xs) (hm : Mv7 w v w' v') (hC : C ≤ w.heap.size) : Below C w w' := by
  rcases hm with ⟨_, hg⟩ | ⟨_, hb⟩
  · refine ⟨hg.os, hg.tape, hg.output, hg.size, fun k hk => hg.block k (by omega) (fun e => ?_)⟩
    have := (World.ownsRow.lt h k e.symm).1
    omega
  · exact hb.mono hC
set_option maxRecDepth 100000 in
theorem Ap7.swap {w : World} {C : Nat} {v u : Value} {N M n m ga gb : Nat} {x y : Int} (h : Ap7 w C v u N M n m ga gb x y) : Ap7 w C u v M N m n gb ga y x :=
  ⟨h.d, h.c, h.rb, h.ra, by
    cases hu : u.ownBlock with
    | none => exact .inl rfl
    | some z =>
      right
      intro e
      rcases h.cd with h1 | h1
      · rw [h1] at e; cases e
      · exact h1 (by rw [← e, hu]), h.da, h.cb, h.mM, h.nN⟩
set_option maxRecDepth 100000 in
theorem below_grown {w w' : World} (h : Below w.heap.size w w') (row : Option Nat) : w.grownBy w' row := ⟨h.os, h.tape, h.output, h.size, fun k hk _ => h.block k hk⟩
set_option maxRecDepth 100000 in
theorem Ap7.on {w w' : World} {C : Nat} {v u : Value} {N M n m ga gb : Nat} {x y : Int} (h : Ap7 w C v u N M n m ga gb x y) (hb : Below w.heap.size w w') : Ap7 w' C v u N M n m ga gb x y :=
  ⟨World.ownsRow.kept h.c (below_grown hb none) (by cases hv : v.ownBlock with | none => exact .inl rfl | some z => exact .inr (by simp)), World.ownsRow.kept h.d (below_grown hb none) (by cases hv : u.ownBlock with | none => exact .inl rfl | some z => exact .inr (by simp)), h.ra.same (fun hn => hb.block _ (h.ra.lt hn)), h.rb.same (fun hn => hb.block _ (h.rb.lt hn)), h.cd, h.cb, h.da, h.nN, h.mM⟩
set_option maxRecDepth 100000 in
theorem Ap7.step {w w' : World} {C : Nat} {v v' u : Value} {N M n m ga gb : Nat} {x y : Int} (h : Ap7 w C v u N M n m ga gb x y) (ho : w'.ownsRow C 37 5 v' (N + 1) (rz7 x (N + 1))) (hm : Mv7 w v w' v') : Ap7 w' C v' u (N + 1) M n m ga gb x y := by
  rcases hm with ⟨e, hg⟩ | ⟨e, hb⟩
  · refine ⟨ho, ?_, ?_, ?_, ?_, ?_, h.da, by have := h.nN; omega, h.mM⟩
    · refine World.ownsRow.kept h.d hg ?_
      exact h.swap.cd
    · by_cases hv : v.ownBlock = some ga
      · exact Re7.of_own ho (e.trans hv) (by have := h.nN; omega)
      · exact h.ra.same (fun hn => hg.block _ (h.ra.lt hn) (fun q => hv q.symm))
    · refine h.rb.same (fun hn => hg.block _ (h.rb.lt hn) (fun q => ?_))
      rcases h.cb with h0 | h0
      · omega
      · exact h0 q.symm
    · rw [e]; exact h.cd
    · rw [e]; exact h.cb
  · have h2 := h.on hb
    refine ⟨ho, h2.d, h2.ra, h2.rb, ?_, ?_, h.da, by have := h.nN; omega, h.mM⟩
    · right
      intro q
      have := (World.ownsRow.lt h.d _ (q.symm.trans e)).2
      omega
    · by_cases hm0 : m = 0
      · exact .inl hm0
      · right
        intro q
        have h3 := h.rb.lt (by omega)
        rw [e] at q
        injection q with q
        omega
end Go.Proofs.YtobfkcepjnjfpaaGreatDoor
