/- tuple.Print of small Ints and Lists. -/
import Derived.Test.YtfdiflfjefhjfaaGreatDoorEnc5
import Derived.Lib.AppendStr
import Derived.Handy
import Derived.Deep.RegionHeld3
namespace Go.Proofs.YtfdiflfjefhjfaaGreatDoor
open Go.RowKit

set_option maxRecDepth 100000 in
theorem strCells_By (s : ByteArray) : Lib.strCells s = By (bL s) := by
  simp [Lib.strCells, By, bL]
set_option maxRecDepth 100000 in
/-- 'append(out, s...)', s a text: where the new bytes lie. -/
theorem run_app_str (w : World) (B : Nat) (ty : TypeId) (v : Value) (l : List Int) (s : ByteArray) (hown : OwnB w B v l) (hb : l.length + s.size ≤ 140737488355328) (hB : B ≤ w.heap.size) :
    ∃ v' w', (Builtin.append_ #[30, 9] ty #[v, .string s]).run Tryz.prog w = .ok v' w' ∧ OwnB w' B v' (l ++ bL s) ∧ Gr w v w' v' := by
  obtain ⟨i0, hi, hz0, hz1, hz2⟩ := info_parts info5
  obtain ⟨v', w', hr, h2, h3, h4⟩ := Lib.run_append_own_string (P := Tryz.prog) w B 30 9 ty 5 i0 Tryz.underlying30 Tryz.underlying9 hi hz0 hz1 hz2 v l.length (By l) hown s (by unfold maxLen; omega) hb hB
  refine ⟨v', w', hr, ?_, h3, ?_⟩
  · unfold OwnB
    rw [By_append, List.length_append, bL_length, ← strCells_By]
    exact h2
  · rcases hown.2 with ⟨rfl, h0⟩ | ⟨g, cap, cur, rfl, hbg, hg, hnc, hcm, hcs, htake⟩
    · by_cases hm : s.size = 0
      · exact .inl (by rw [h4.2 ⟨rfl, hm⟩])
      · have hr' := run_append_nil_string (P := Tryz.prog) w 30 9 ty 5 i0 (.int .u8 0) Tryz.underlying30 Tryz.underlying9 hi hz0 s (by omega) (by omega) (by rw [hz2]; omega)
        rw [hr] at hr'
        injection hr' with e1 e2
        exact .inr ⟨w.heap.size, by rw [e1]; rfl, Nat.le_refl _⟩
    · by_cases hroom : l.length + s.size ≤ cap
      · have hr' := Lib.run_append_room_string (P := Tryz.prog) w 30 9 ty 5 i0 Tryz.underlying30 Tryz.underlying9 hi hz1 g l.length cap cur hg s hroom (by omega)
        rw [hr] at hr'
        injection hr' with e1 e2
        exact .inl (by rw [e1]; rfl)
      · have holds : ∀ j u, (By l)[j]? = some u → w.cell? ((⟨g, 0, none⟩ : Addr).add j) = some u := World.ownsRow.cells (show w.ownsRow B 5 1 _ _ _ from hown) (g := g) rfl
        have hr' := Lib.run_append_grow_string (P := Tryz.prog) w 30 9 ty 5 i0 (.int .u8 0) Tryz.underlying30 Tryz.underlying9 hi hz0 ⟨g, 0, none⟩ l.length cap (By l) (by rw [hz1]; simp [By]) holds s (by omega) (by omega) (by rw [hz2]; exact growslice_fits (by omega) (by omega))
        rw [hr] at hr'
        injection hr' with e1 e2
        exact .inr ⟨w.heap.size, by rw [e1]; rfl, Nat.le_refl _⟩
set_option maxRecDepth 100000 in
theorem app_str {ops : Array Oper} {rest : List Oper} {o : Oper} {a : Act} {Q : Exit → Act → World → Prop} (w : World) (hgd : o.guard = none) (s x : Operand)
    (ho : o.op = .call { callee := .builtin .append, args := #[s, x], argTypes := #[30, 9] }) (B : Nat) (l : List Int) (v : Value) (t : ByteArray) (hs : a.eval s = v) (hx : a.eval x = .string t)
    (hown : OwnB w B v l) (hb : l.length + t.size ≤ 140737488355328) (hbase : B ≤ w.heap.size)
    (h : ∀ v' w', OwnB w' B v' (l ++ bL t) → Gr w v w' v' → wpList Tryz.prog ops Q rest (a.put o.dst v') w') : wpList Tryz.prog ops Q (o :: rest) a w := by
  obtain ⟨v', w', hr, h1, h2⟩ := run_app_str w B o.type v l t hown hb hbase
  refine wpList_plain hgd fun K hK => ?_
  unfold Oper.wp execOp
  simp only [ho, resolve, invoke, builtin, Sem.run_bind, Sem.run_pure, Result.andThen_ok, List.map_toArray, List.map_cons, List.map_nil, hs, hx, hr]
  exact hK _ _ (h v' w' h1 h2)

set_option maxRecDepth 100000 in
theorem small_1 (w : World) : Calls Tryz.prog 111 #[.int .i64 1] w fun e w' => e = .returned (.string ⟨#[49]⟩) ∧ w' = w := by
  go_enter Tryz.func111, Tryz.ntmps111
  go_wp2
  go_ret
  exact ⟨by kernel_rfl, rfl⟩
set_option maxRecDepth 100000 in
theorem appUint_1 (v : Value) (B : Nat) (l : List Int) (w : World) (hw : OwnB w B v l) (hB : B ≤ w.heap.size) (hl : l.length + 21 ≤ 140737488355328) :
    Calls Tryz.prog 97 #[v, .int .u64 1, .int .i64 10] w fun e w' => ∃ v', e = .returned v' ∧ OwnB w' B v' (l ++ [49]) ∧ Gr w v w' v' := by
  have Hw := hidden hw
  clear hw
  go_enter Tryz.func97, Tryz.ntmps97
  go_wp2_with (first | (go_at_call 111; refine same_call (small_1 _) ?_) | (at_builtin; refine app_str _ rfl _ _ rfl B l _ ⟨#[49]⟩ rfl rfl Hw.out (by have : (⟨#[49]⟩ : ByteArray).size = 1 := rfl; omega) hB ?_))
  intro v1 w1 ho1 hg1
  go_wp2
  go_ret
  exact ⟨_, rfl, ho1, hg1⟩
set_option maxRecDepth 100000 in
theorem appInt_1 (v : Value) (B : Nat) (l : List Int) (w : World) (hw : OwnB w B v l) (hB : B ≤ w.heap.size) (hl : l.length + 21 ≤ 140737488355328) :
    Calls Tryz.prog 62 #[v, .int .i64 1, .int .i64 10] w fun e w' => ∃ v', e = .returned v' ∧ OwnB w' B v' (l ++ [49]) ∧ Gr w v w' v' := by
  have Hw := hidden hw
  clear hw
  go_enter Tryz.func62, Tryz.ntmps62
  go_wp2_with (first | (go_at_call 97; refine (appUint_1 v B l w Hw.out hB hl).mono ?_; rintro e w1 ⟨v1, rfl, ho1, hg1⟩) | go_in)
  go_ret
  exact ⟨v1, rfl, ho1, hg1⟩
end Go.Proofs.YtfdiflfjefhjfaaGreatDoor

/- tuple.Print of the Int 1 and of Lists. -/

namespace Go.Proofs.YtfdiflfjefhjfaaGreatDoor
open Go.RowKit

/-- Items as text, behind what stands there; each item behind the first with a blank ahead. -/
def pI : Its → Bool → List Int → List Int
  | .nil, _, b => b
  | .cons k _ _ sub r, more, b => if 65536 < b.length then b else
    pI r true (if k = 3 then (if more then b ++ [32] else b) ++ [49] else pI sub false ((if more then b ++ [32] else b) ++ [91]) ++ [93])
def p1 (k : Int) (sub : Its) (b : List Int) : List Int := if k = 3 then b ++ [49] else pI sub false (b ++ [91]) ++ [93]
set_option maxRecDepth 100000 in
theorem pI_cons (k n : Int) (t : ByteArray) (sub r : Its) (more : Bool) (b : List Int) : pI (.cons k n t sub r) more b = if 65536 < b.length then b else pI r true (p1 k sub (if more then b ++ [32] else b)) := by
  rw [pI]; rfl
/-- The Int 1 and Lists alone. -/
def Its.IL : Its → Prop
  | .nil => True
  | .cons k n _ sub r => (k = 3 ∧ n = 1 ∨ k = 7) ∧ sub.IL ∧ r.IL
set_option maxRecDepth 100000 in
theorem Its.IL.drop : ∀ (l : Its) (i : Nat), l.IL → (l.drop i).IL
  | l, 0, h => by simpa [Its.drop] using h
  | .nil, _ + 1, _ => trivial
  | .cons _ _ _ _ r, i + 1, h => Its.IL.drop r i h.2.2
set_option maxRecDepth 100000 in
theorem pI_length : ∀ (l : Its) (more : Bool) (b : List Int), (pI l more b).length ≤ max b.length 65540 + l.sz
  | .nil, _, b => by rw [pI]; omega
  | .cons k n t sub r, more, b => by
    rw [pI_cons]
    simp only [Its.sz]
    split
    · omega
    · rename_i h
      have hb : (if more then b ++ [32] else b).length ≤ 65537 := by
        split
        · simp; omega
        · omega
      have hr := pI_length r true (p1 k sub (if more then b ++ [32] else b))
      generalize (if more then b ++ [32] else b) = b' at *
      have hs := pI_length sub false (b' ++ [91])
      have he : (p1 k sub b').length ≤ 65540 + sub.sz + 1 := by
        unfold p1
        split
        · simp; omega
        · simp only [List.length_append, List.length_cons, List.length_nil] at hs ⊢; omega
      omega
set_option maxRecDepth 100000 in
theorem pI_wf : ∀ (l : Its) (more : Bool) (b : List Int), Wf b → Wf (pI l more b)
  | .nil, _, b, h => by rw [pI]; exact h
  | .cons k n t sub r, more, b, h => by
    rw [pI_cons]
    split
    · exact h
    · have hb : Wf (if more then b ++ [32] else b) := by
        split
        · exact h.append (Wf.cons (by omega) Wf.nil)
        · exact h
      refine pI_wf r _ _ ?_
      unfold p1
      split
      · exact hb.append (Wf.cons (by omega) Wf.nil)
      · exact (pI_wf sub _ _ (hb.append (Wf.cons (by omega) Wf.nil))).append (Wf.cons (by omega) Wf.nil)

set_option maxRecDepth 100000 in
theorem alloc_old (u : World) (o : Obj) (a : Addr) (h : a.block < u.heap.size) : (u.alloc o).cell? a = u.cell? a := ((Below.refl u.heap.size u).alloc (Nat.le_refl _) o).cell h
set_option maxRecDepth 100000 in
theorem alloc_at (u : World) (x : Value) (ty H : Nat) (hH : u.heap.size = H) : (u.alloc (.cells #[x] ty)).cell? ⟨H, 0, none⟩ = some x := by subst hH; simp
set_option maxRecDepth 100000 in
theorem alloc4 (u : World) (a b c d : Value) (ty : Nat) : (u.alloc (.cells #[a, b, c, d] ty)).cell? ⟨u.heap.size, 3, none⟩ = some d := by simp
set_option maxRecDepth 100000 in
theorem cellsX (w : World) (a b c d x y : Value) (ty t5 : Nat) : (((w.alloc (.cells #[a, b, c, d] ty)).alloc (.cells #[x] t5)).alloc (.cells #[y] t5)).cell? ⟨w.heap.size, 3, none⟩ = some d ∧
    (((w.alloc (.cells #[a, b, c, d] ty)).alloc (.cells #[x] t5)).alloc (.cells #[y] t5)).cell? ⟨w.heap.size + 1, 0, none⟩ = some x ∧ (((w.alloc (.cells #[a, b, c, d] ty)).alloc (.cells #[x] t5)).alloc (.cells #[y] t5)).cell? ⟨w.heap.size + 1 + 1, 0, none⟩ = some y := by
  refine ⟨?_, ?_, alloc_at _ _ _ _ (by simp)⟩
  · rw [alloc_old _ _ _ (by simp; omega), alloc_old _ _ _ (by simp)]
    exact alloc4 _ _ _ _ _ _
  · rw [alloc_old _ _ _ (by simp)]
    exact alloc_at _ _ _ _ (by simp)

/-- What printItems does of items that lie in memory, in whatever world. -/
def PrtIs (l : Its) (so : Option Addr) (m c : Nat) : Prop := ∀ (v : Value) (B : Nat) (b : List Int) (w : World), OwnB w B v b → B ≤ w.heap.size → SlI w (· < B) so m c l → Wf b → b.length ≤ 65538 → l.sz + 1000000 ≤ 140737488355328 →
    Calls Tryz.prog 30 #[v, .slice so m c] w fun e w' => ∃ v', e = .returned v' ∧ OwnB w' B v' (pI l false b) ∧ Gr w v w' v'

set_option maxHeartbeats 1000000 in
set_option maxRecDepth 100000 in
theorem printItem_of (k n : Int) (t : ByteArray) (so : Option Addr) (m c : Nat) (sub : Its) (v : Value) (B : Nat) (b : List Int) (w : World) (hw : OwnB w B v b) (hB : B ≤ w.heap.size) (hs : SlI w (· < B) so m c sub)
    (hb : Wf b) (hb0 : b.length ≤ 65537) (hl : sub.sz + 1000000 ≤ 140737488355328) (hk : k = 3 ∧ n = 1 ∨ k = 7) (hsub : PrtIs sub so m c) :
    Calls Tryz.prog 44 #[v, .agg #[.int .i64 k, .int .i64 n, .string t, .slice so m c]] w fun e w' => ∃ v', e = .returned v' ∧ OwnB w' B v' (p1 k sub b) ∧ Gr w v w' v' := by
  have Hw := hidden hw
  have Hs := hidden hs
  have Hsub := hidden hsub
  have hpl := pI_length sub false (b ++ [91])
  have hb1 : (b ++ [91]).length = b.length + 1 := by simp
  rw [hb1] at hpl
  have b0 : ∀ o, Below B w (w.alloc o) := fun o => (Below.refl _ _).alloc hB o
  have hne : ∀ k', v.ownBlock = some k' → k' < w.heap.size := fun k' hk' => (World.ownsRow.lt (show w.ownsRow B 5 1 _ _ _ from hw) k' hk').2
  have Hne := hidden hne
  clear hw hs hsub hne
  rcases hk with ⟨rfl, rfl⟩ | rfl
  · go_enter Tryz.func44, Tryz.ntmps44
    go_wp2_with (go_at_call 62; refine (appInt_1 v B b _ (Hw.out.alloc _) (by simp; omega) (by omega)).mono ?_; rintro e w1 ⟨v1, rfl, ho1, hg1⟩)
    go_ret
    exact ⟨_, rfl, by simpa [p1] using ho1, (Gr.alloc _ _ _).trans hg1⟩
  · have e0 : p1 7 sub b = pI sub false (b ++ [91]) ++ [93] := by unfold p1; rw [if_neg (by decide)]
    rw [e0]
    go_enter Tryz.func44, Tryz.ntmps44
    go_wp2_with fail
    go_region_held3 (fun w' => w'.cell? ⟨w.heap.size, 3, none⟩ = some (.slice so m c))
      (first | exact s4 | exact s3 | exact s2 | go_keep)
      (first | (refine step_app1 (by rfl) _ _ (by rfl) B b 91 _ _ (by rfl) (by rfl) (Hw.out.on (Nat.le_refl _) (by go_grown)) (by first | exact (cellsX _ _ _ _ _ _ _ _ _).2.1 | exact (cellsX _ _ _ _ _ _ _ _ _).2.2 | (simp; done)) (by omega) (by simp; omega) ?_; intro v2 w2 ho2 hg2; have G2 : Gr w v w2 v2 := (Gr.ofBelow _ (show Below w.heap.size w _ from by go_grown)).trans hg2; have R2 : Below B w w2 := G2.below Hw.out hB; have hB2 : B ≤ w2.heap.size := (by have := R2.size; omega); have hz2 : w.heap.size + 2 ≤ w2.heap.size := (by have := hg2.grow.size; simp at this; omega); have hv2 : some w.heap.size ≠ v2.ownBlock := hg2.ne (by simp; omega) (fun k' h => Nat.ne_of_lt (Hne.out _ h)); have s2 : w2.cell? ⟨w.heap.size, 3, none⟩ = some (.slice so m c) := (hg2.cell _ (by simp; omega) (fun h => absurd (Hne.out _ h.symm) (Nat.lt_irrefl _))).trans (by first | exact (cellsX _ _ _ _ _ _ _ _ _).1 | (simp; done)); have hvB : some w2.heap.size ≠ v2.ownBlock := (fun h => absurd (World.ownsRow.lt (show w2.ownsRow B 5 1 _ _ _ from ho2) _ h.symm).2 (Nat.lt_irrefl _))) | (go_at_call 30; refine (Hsub.out v2 B (b ++ [91]) _ (ho2.on (Nat.le_refl _) (by go_grown)) (by first | omega | (simp; omega)) ((Hs.out.onB R2).on (Nat.le_refl _) (by go_grown)) (hb.append (Wf.cons (by omega) Wf.nil)) (by simp; omega) hl).mono ?_; rintro e w3 ⟨v3, rfl, ho3, hg3⟩; have G3 : Gr w2 v2 w3 v3 := (Gr.ofBelow _ (show Below w2.heap.size w2 _ from by go_grown)).trans hg3; have hz3 : w2.heap.size ≤ w3.heap.size := G3.grow.size; have s3 : w3.cell? ⟨w.heap.size, 3, none⟩ = some (.slice so m c) := (G3.cell _ (Nat.lt_of_lt_of_le (Nat.lt_add_of_pos_right (by decide)) hz2) hv2).trans s2) | (refine step_app1 (by rfl) _ _ (by rfl) B (pI sub false (b ++ [91])) 93 _ _ (by rfl) (by rfl) (ho3.on (Nat.le_refl _) (by go_grown)) (by first | exact alloc_at _ _ _ _ rfl | exact (hg3.cell ⟨w2.heap.size, 0, none⟩ (by simp) hvB).trans (alloc_at _ _ _ _ rfl) | exact (hg3.cell ⟨w.heap.size + 1, 0, none⟩ (by first | (show w.heap.size + 1 < w2.heap.size; have := hg2.grow.size; simp at this; omega)) (hg2.ne (k := w.heap.size + 1) (by first | (simp; done) | (simp; omega)) (fun k' h => by have := Hne.out k' h; omega))).trans ((hg2.cell ⟨w.heap.size + 1, 0, none⟩ (by first | (simp; done) | (simp; omega)) (fun h => absurd (Hne.out (w.heap.size + 1) h.symm) (by omega))).trans (cellsX _ _ _ _ _ _ _ _ _).2.1) | exact (hg3.cell ⟨w.heap.size + 1 + 1, 0, none⟩ (by first | (show w.heap.size + 1 + 1 < w2.heap.size; have := hg2.grow.size; simp at this; omega)) (hg2.ne (k := w.heap.size + 1 + 1) (by first | (simp; done) | (simp; omega)) (fun k' h => by have := Hne.out k' h; omega))).trans ((hg2.cell ⟨w.heap.size + 1 + 1, 0, none⟩ (by first | (simp; done) | (simp; omega)) (fun h => absurd (Hne.out (w.heap.size + 1 + 1) h.symm) (by omega))).trans (cellsX _ _ _ _ _ _ _ _ _).2.2)) (by omega) (by first | omega | (simp; omega)) ?_; intro v4 w4 ho4 hg4; have G4 : Gr w3 v3 w4 v4 := (Gr.ofBelow _ (show Below w3.heap.size w3 _ from by go_grown)).trans hg4; have hv3 : some w.heap.size ≠ v3.ownBlock := G3.ne (by omega) (fun k' h e => hv2 (by rw [h, e])); have s4 : w4.cell? ⟨w.heap.size, 3, none⟩ = some (.slice so m c) := (G4.cell _ (show w.heap.size < w3.heap.size by omega) hv3).trans s3))
    all_goals go_wp2
    all_goals go_ret
    all_goals exact ⟨_, rfl, ho4, G2.trans (G3.trans G4)⟩
end Go.Proofs.YtfdiflfjefhjfaaGreatDoor

/- tuple.Print of the Int 1 and of Lists: the loop, and the whole. -/

namespace Go.Proofs.YtfdiflfjefhjfaaGreatDoor
open Go.RowKit

set_option maxRecDepth 100000 in
theorem cells_new (u : World) (a b c d : Value) (ty : Nat) : (u.alloc (.cells #[a, b, c, d] ty)).cell? ⟨u.heap.size, 0, none⟩ = some a ∧ (u.alloc (.cells #[a, b, c, d] ty)).cell? ⟨u.heap.size, 1, none⟩ = some b ∧ (u.alloc (.cells #[a, b, c, d] ty)).cell? ⟨u.heap.size, 2, none⟩ = some c ∧ (u.alloc (.cells #[a, b, c, d] ty)).cell? ⟨u.heap.size, 3, none⟩ = some d := by
  simp
set_option maxRecDepth 100000 in
theorem one_ownH (u : World) (x : Int) (H : Nat) (hH : u.heap.size = H) : OwnB (u.alloc (.cells #[.int .u8 x] 5)) H (.slice (some ⟨H, 0, none⟩) 1 1) [x] := by subst hH; exact one_own u x
set_option maxRecDepth 100000 in
theorem p1_length (k : Int) (sub : Its) (b : List Int) (hb : b.length ≤ 65537) : (p1 k sub b).length ≤ 65541 + sub.sz := by
  have hs := pI_length sub false (b ++ [91])
  unfold p1
  split
  · simp; omega
  · simp only [List.length_append, List.length_cons, List.length_nil] at hs ⊢; omega
set_option maxRecDepth 100000 in
theorem p1_wf (k : Int) (sub : Its) (b : List Int) (h : Wf b) : Wf (p1 k sub b) := by
  unfold p1
  split
  · exact h.append (Wf.cons (by omega) Wf.nil)
  · exact (pI_wf sub _ _ (h.append (Wf.cons (by omega) Wf.nil))).append (Wf.cons (by omega) Wf.nil)
set_option maxRecDepth 100000 in
theorem pI_long (l : Its) (more : Bool) (b : List Int) (h : 65536 < b.length) : pI l more b = b := by
  cases l with
  | nil => rw [pI]
  | cons => rw [pI_cons, if_pos h]

set_option maxHeartbeats 1000000 in
set_option maxRecDepth 100000 in
theorem printItems_all : ∀ (N : Nat) (l : Its), l.sz < N → l.IL → ∀ (so : Option Addr) (m c : Nat), PrtIs l so m c
  | 0, l, h => by omega
  | N + 1, l, h => by
    intro hil so m c v B b w hw hB hs hwf hb0 hlen
    have Hih := hidden (printItems_all N)
    have hm := hs.hlen
    have hroom := hs.hroom
    have Hs := hidden hs
    have Hw := hidden hw
    have Hk := hidden hil
    have Hwf := hidden hwf
    clear hs hw hil hwf
    go_enter Tryz.func30, Tryz.ntmps30
    go_wp2_with fail
    go_loopw [0, 9] (fun u i wr => ∃ (k : Nat) (b' : List Int), k ≤ m ∧ i = .int .i64 k ∧ OwnB wr B u b' ∧ Gr w v wr u ∧ pI l false b = pI (l.drop k) (decide (0 < k)) b' ∧ Wf b' ∧ b'.length + (l.drop k).sz ≤ 131100 + l.sz) (fun _ i _ => m - (intOf i).toNat)
    case atStart => exact ⟨0, b, by omega, rfl, Hw.out, Gr.refl _ _, by simp [Its.drop], Hwf.out, by simp [Its.drop]; omega⟩
    case round =>
      obtain ⟨k, b', hk, rfl, hown, hbel, he, hwf', hlb⟩ := hrel
      have hBr : B ≤ wr.heap.size := by have := hbel.grow.size; omega
      have HE := hidden he
      have HO := hidden hown
      have HB := hidden (hbel.below Hw.out hB)
      have HG := hidden hbel
      have HW := hidden hwf'
      clear he hown hbel hwf'
      by_cases hlt : k < m
      · obtain ⟨bb, off, kk, nn, t, sub, r, xo, xm, xc, rfl, hbb, e1', e2', c0, c1, c2, c3, hsub, o1, o2, o3⟩ := (Hs.out.onB HB.out).item k hlt
        have HSub := hidden hsub
        have HK := hidden (Hk.out.drop l k)
        have hsz := Its.sub_sz e1'
        have hdz := Its.drop_sz l k
        rw [e1'] at HE HK
        rw [e1'] at hlb hdz
        simp only [Its.sz] at hlb hdz
        clear hsub
        by_cases hlong : 65536 < b'.length
        · obtain ⟨ao, cv, rfl, hsl, _⟩ := HO.out.sl HW.out (by omega)
          have hlong' : (65536 : Int) < b'.length := by omega
          clear hsl
          go_wp2_with fail
          go_ret
          refine ⟨_, rfl, ?_, HG.out.trans (Gr.alloc _ _ _)⟩
          rw [HE.out, pI_long _ _ _ hlong]
          exact HO.out.alloc _
        · obtain ⟨ao, cv, rfl, hsl, _⟩ := HO.out.sl HW.out (by omega)
          have hlong' : ¬ (65536 : Int) < b'.length := by omega
          clear hsl
          by_cases hk0 : 0 < k
          · have hk0' : (0 : Int) < k := by omega
            have hd : decide (0 < k) = true := by simp [hk0]
            rw [hd] at HE
            have hne : ∀ k', (Value.slice ao b'.length cv).ownBlock = some k' → k' < wr.heap.size := fun k' hk' => (World.ownsRow.lt (show wr.ownsRow B 5 1 _ _ _ from HO.out) k' hk').2
            have Hne := hidden hne
            clear hne hd
            go_wp2_with (at_builtin; refine app_all _ rfl _ _ rfl B (wr.heap.size + 1) b' [32] _ _ rfl rfl ((HO.out.alloc _).alloc _) (one_ownH _ _ _ (by simp)) (Wf.cons (by omega) Wf.nil) (by simp; omega) (by simp; omega) ?_)
            intro v2 w2 ho2 hg2
            have G2 : Gr wr _ w2 v2 := ((Gr.alloc _ _ _).trans (Gr.alloc _ _ _)).trans hg2
            have R2 : Below B wr w2 := G2.below HO.out hBr
            have hB2 : B ≤ w2.heap.size := by have := R2.size; omega
            have hfar := fun j => hg2.cell (⟨wr.heap.size, j, none⟩ : Addr) (by simp; omega) (fun h => absurd (Hne.out _ h.symm) (Nat.lt_irrefl _))
            have f0 := (hfar 0).trans ((alloc_old _ _ _ (by simp)).trans (cells_new wr _ _ _ _ _).1)
            have f1 := (hfar 1).trans ((alloc_old _ _ _ (by simp)).trans (cells_new wr _ _ _ _ _).2.1)
            have f2 := (hfar 2).trans ((alloc_old _ _ _ (by simp)).trans (cells_new wr _ _ _ _ _).2.2.1)
            have f3 := (hfar 3).trans ((alloc_old _ _ _ (by simp)).trans (cells_new wr _ _ _ _ _).2.2.2)
            have Ho2 := hidden ho2
            have HG2 := hidden G2
            clear hfar hg2 ho2 G2
            go_wp2_with (go_at_call 44; refine (printItem_of kk nn t xo xm xc sub v2 B (b' ++ [32]) _ Ho2.out hB2 (HSub.out.onB R2) (HW.out.append (Wf.cons (by omega) Wf.nil)) (by simp; omega) (by omega) HK.out.1 (Hih.out sub (by omega) HK.out.2.1 xo xm xc)).mono ?_; rintro e w3 ⟨v3, rfl, ho3, hg3⟩)
            go_roundw
            case rel =>
              have hel := p1_length kk sub (b' ++ [32]) (by simp; omega)
              refine ⟨k + 1, _, by omega, by go_num, ho3, HG.out.trans (HG2.out.trans hg3), ?_, p1_wf _ _ _ (HW.out.append (Wf.cons (by omega) Wf.nil)), ?_⟩
              · rw [HE.out, pI_cons, if_neg hlong, e2', show decide (0 < k + 1) = true from by simp]; rfl
              · rw [e2']; omega
            case measure => simp [intOf]; omega
          · have hk0' : (k : Int) ≤ 0 := by omega
            have hd : decide (0 < k) = false := by simp; omega
            rw [hd] at HE
            clear hd
            go_wp2_with (go_at_call 44; refine (printItem_of kk nn t xo xm xc sub _ B b' _ (HO.out.alloc _) (by simp; omega) (HSub.out.on (Nat.le_refl _) ((Below.refl _ _).alloc (Nat.le_refl _) _)) HW.out (by omega) (by omega) HK.out.1 (Hih.out sub (by omega) HK.out.2.1 xo xm xc)).mono ?_; rintro e w3 ⟨v3, rfl, ho3, hg3⟩)
            go_roundw
            case rel =>
              have hel := p1_length kk sub b' (by omega)
              refine ⟨k + 1, _, by omega, by go_num, ho3, HG.out.trans ((Gr.alloc _ _ _).trans hg3), ?_, p1_wf _ _ _ HW.out, ?_⟩
              · rw [HE.out, pI_cons, if_neg hlong, e2', show decide (0 < k + 1) = true from by simp]; rfl
              · rw [e2']; omega
            case measure => simp [intOf]; omega
      · obtain rfl : k = m := by omega
        go_wp2
        go_ret
        refine ⟨_, rfl, ?_, HG.out⟩
        rw [HE.out, ← hm, Its.drop_all, pI]
        exact HO.out
set_option maxRecDepth 100000 in
theorem conv_str {w : World} {ao : Option Addr} {n cap : Nat} {l : List Int} (hs : Sl w ao n cap l) :
    (convert 30 9 (.slice ao n cap)).run Tryz.prog w = .ok (.string (strOfNums l)) w := by
  obtain ⟨hlen, hcap, hroom, hwf, hnil, hat⟩ := hs
  rcases hat with rfl | ⟨b, off, rfl, hb, hc⟩
  · obtain rfl : l = [] := List.eq_nil_of_length_eq_zero hlen
    rw [run_convert_bytes_string w 30 9 5 ao 0 cap Tryz.underlying30 Tryz.underlying5 Tryz.underlying9]
    cases ao with
    | none => simp [Conv.bytesToString, Sem.run_pure, strOfNums]; rfl
    | some a =>
      rw [run_bytesToString w a 0 cap [] (by simpa using run_loadCells_list (P := Tryz.prog) w a [] (fun j v h => by cases h))]
      rfl
  · exact run_convert_bytes_arg w 30 5 Tryz.underlying30 Tryz.underlying5 b off n cap l hlen hc 9 Tryz.underlying9

set_option maxHeartbeats 400000 in
set_option maxRecDepth 100000 in
theorem print_any (l : Its) (ao : Option Addr) (n cap : Nat) (w : World) (hs : SlI w Tp ao n cap l) (hil : l.IL) (htx : l.Tx fun _ => False) (hc : chk (fun _ => true) l 0 = 0) (hl : (pI l false []).length ≤ 65536) (hz : l.sz + 1000000 ≤ 140737488355328) :
    Calls Tryz.prog 17 #[.slice ao n cap] w fun e w' => e = .returned (.tuple #[.string (strOfNums (pI l false [])), .int .i64 0]) ∧ Below w.heap.size w w' := by
  have htx' : ∀ l : Its, (l.Tx fun _ => False) → l.Tx (ValidAt (fun _ => True) (fun _ => true)) := by
    intro l
    induction l with
    | nil => intro _; trivial
    | cons k n t sub r ih1 ih2 => exact fun h => ⟨fun h6 => (h.1 h6).elim, ih1 h.2.1, ih2 h.2.2⟩
  have Hc := hidden (check_any (fun _ => True) (fun _ => true) (fun _ _ _ _ => trivial) l ao n cap w trivial hs (htx' l htx))
  have Hs := hidden hs
  have Hk := hidden hil
  have Hwf := hidden (pI_wf l false [] Wf.nil)
  clear hs htx htx'
  go_enter Tryz.func17, Tryz.ntmps17
  go_wp2_with (first | (go_at_call 8; refine Hc.out.mono ?_; rintro e w1 ⟨rfl, hb1⟩; rw [hc]) | (go_at_call 30; refine (printItems_all (l.sz + 1) l (by omega) Hk.out ao n cap _ w1.heap.size [] w1 (OwnB.nil _ _) (Nat.le_refl _) ((Hs.out.on (Nat.le_refl _) hb1).low (Nat.le_refl _)) Wf.nil (by simp) hz).mono ?_; rintro e w2 ⟨v2, rfl, ho2, hg2⟩; obtain ⟨a2, c2, rfl, s2, _⟩ := ho2.sl Hwf.out (by omega); have hl' : ¬ (65536 : Int) < (pI l false []).length := (by omega); have HG := hidden (hg2.below (l := []) (OwnB.nil _ _) (Nat.le_refl _)); have hcv := conv_str s2; clear s2 ho2 hg2))
  go_returns
  exact ⟨rfl, hb1.trans (HG.out.mono hb1.size)⟩
end Go.Proofs.YtfdiflfjefhjfaaGreatDoor
