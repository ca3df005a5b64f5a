/- tuple.Print of small Ints and Lists. -/
import Derived.Test.YtpiijmionafmcaaGreatDoorEnc5
import Derived.Lib.AppendStr
import Derived.Handy
import Derived.Deep.RegionHeld3
import Derived.Test.YtpiijmionafmcaaGreatDoorAwk2
namespace Go.Proofs.YtpiijmionafmcaaGreatDoor
open Go.RowKit

set_option maxRecDepth 100000 in
theorem strCells_By (s : ByteArray) : Lib.strCells s = By (bL s) := by
  simp [Lib.strCells, By, bL]
set_option maxRecDepth 100000 in
/-- 'append(out, s...)', s a text: where the new bytes lie. -/
theorem run_app_str (w : World) (B : Nat) (ty : TypeId) (v : Value) (l : List Int) (s : ByteArray) (hown : OwnB w B v l) (hb : l.length + s.size ≤ 140737488355328) (hB : B ≤ w.heap.size) :
    ∃ v' w', (Builtin.append_ #[22, 9] ty #[v, .string s]).run Tryz.prog w = .ok v' w' ∧ OwnB w' B v' (l ++ bL s) ∧ Gr w v w' v' := by
  obtain ⟨i0, hi, hz0, hz1, hz2⟩ := info_parts info5
  obtain ⟨v', w', hr, h2, h3, h4⟩ := Lib.run_append_own_string (P := Tryz.prog) w B 22 9 ty 5 i0 Tryz.underlying22 Tryz.underlying9 hi hz0 hz1 hz2 v l.length (By l) hown s (by unfold maxLen; omega) hb hB
  refine ⟨v', w', hr, ?_, h3, ?_⟩
  · unfold OwnB
    rw [By_append, List.length_append, bL_length, ← strCells_By]
    exact h2
  · rcases hown.2 with ⟨rfl, h0⟩ | ⟨g, cap, cur, rfl, hbg, hg, hnc, hcm, hcs, htake⟩
    · by_cases hm : s.size = 0
      · exact .inl (by rw [h4.2 ⟨rfl, hm⟩])
      · have hr' := run_append_nil_string (P := Tryz.prog) w 22 9 ty 5 i0 (.int .u8 0) Tryz.underlying22 Tryz.underlying9 hi hz0 s (by omega) (by omega) (by rw [hz2]; omega)
        rw [hr] at hr'
        injection hr' with e1 e2
        exact .inr ⟨w.heap.size, by rw [e1]; rfl, Nat.le_refl _⟩
    · by_cases hroom : l.length + s.size ≤ cap
      · have hr' := Lib.run_append_room_string (P := Tryz.prog) w 22 9 ty 5 i0 Tryz.underlying22 Tryz.underlying9 hi hz1 g l.length cap cur hg s hroom (by omega)
        rw [hr] at hr'
        injection hr' with e1 e2
        exact .inl (by rw [e1]; rfl)
      · have holds : ∀ j u, (By l)[j]? = some u → w.cell? ((⟨g, 0, none⟩ : Addr).add j) = some u := World.ownsRow.cells (show w.ownsRow B 5 1 _ _ _ from hown) (g := g) rfl
        have hr' := Lib.run_append_grow_string (P := Tryz.prog) w 22 9 ty 5 i0 (.int .u8 0) Tryz.underlying22 Tryz.underlying9 hi hz0 ⟨g, 0, none⟩ l.length cap (By l) (by rw [hz1]; simp [By]) holds s (by omega) (by omega) (by rw [hz2]; exact growslice_fits (by omega) (by omega))
        rw [hr] at hr'
        injection hr' with e1 e2
        exact .inr ⟨w.heap.size, by rw [e1]; rfl, Nat.le_refl _⟩
set_option maxRecDepth 100000 in
theorem app_str {ops : Array Oper} {rest : List Oper} {o : Oper} {a : Act} {Q : Exit → Act → World → Prop} (w : World) (hgd : o.guard = none) (s x : Operand)
    (ho : o.op = .call { callee := .builtin .append, args := #[s, x], argTypes := #[22, 9] }) (B : Nat) (l : List Int) (v : Value) (t : ByteArray) (hs : a.eval s = v) (hx : a.eval x = .string t)
    (hown : OwnB w B v l) (hb : l.length + t.size ≤ 140737488355328) (hbase : B ≤ w.heap.size)
    (h : ∀ v' w', OwnB w' B v' (l ++ bL t) → Gr w v w' v' → wpList Tryz.prog ops Q rest (a.put o.dst v') w') : wpList Tryz.prog ops Q (o :: rest) a w := by
  obtain ⟨v', w', hr, h1, h2⟩ := run_app_str w B o.type v l t hown hb hbase
  refine wpList_plain hgd fun K hK => ?_
  unfold Oper.wp execOp
  simp only [ho, resolve, invoke, builtin, Sem.run_bind, Sem.run_pure, Result.andThen_ok, List.map_toArray, List.map_cons, List.map_nil, hs, hx, hr]
  exact hK _ _ (h v' w' h1 h2)

set_option maxRecDepth 100000 in
theorem small_1 (w : World) : Calls Tryz.prog 102 #[.int .i64 1] w fun e w' => e = .returned (.string ⟨#[49]⟩) ∧ w' = w := by
  go_enter Tryz.func102, Tryz.ntmps102
  go_wp2
  go_ret
  exact ⟨by kernel_rfl, rfl⟩
set_option maxRecDepth 100000 in
theorem appUint_1 (v : Value) (B : Nat) (l : List Int) (w : World) (hw : OwnB w B v l) (hB : B ≤ w.heap.size) (hl : l.length + 21 ≤ 140737488355328) :
    Calls Tryz.prog 88 #[v, .int .u64 1, .int .i64 10] w fun e w' => ∃ v', e = .returned v' ∧ OwnB w' B v' (l ++ [49]) ∧ Gr w v w' v' := by
  have Hw := hidden hw
  clear hw
  go_enter Tryz.func88, Tryz.ntmps88
  go_wp2_with (first | (go_at_call 102; refine same_call (small_1 _) ?_) | (at_builtin; refine app_str _ rfl _ _ rfl B l _ ⟨#[49]⟩ rfl rfl Hw.out (by have : (⟨#[49]⟩ : ByteArray).size = 1 := rfl; omega) hB ?_))
  intro v1 w1 ho1 hg1
  go_wp2
  go_ret
  exact ⟨_, rfl, ho1, hg1⟩
set_option maxRecDepth 100000 in
theorem appInt_1 (v : Value) (B : Nat) (l : List Int) (w : World) (hw : OwnB w B v l) (hB : B ≤ w.heap.size) (hl : l.length + 21 ≤ 140737488355328) :
    Calls Tryz.prog 50 #[v, .int .i64 1, .int .i64 10] w fun e w' => ∃ v', e = .returned v' ∧ OwnB w' B v' (l ++ [49]) ∧ Gr w v w' v' := by
  have Hw := hidden hw
  clear hw
  go_enter Tryz.func50, Tryz.ntmps50
  go_wp2_with (first | (go_at_call 88; refine (appUint_1 v B l w Hw.out hB hl).mono ?_; rintro e w1 ⟨v1, rfl, ho1, hg1⟩) | go_in)
  go_ret
  exact ⟨v1, rfl, ho1, hg1⟩
end Go.Proofs.YtpiijmionafmcaaGreatDoor

/- tuple.Print of the Int 1 and of Lists. -/

namespace Go.Proofs.YtpiijmionafmcaaGreatDoor
open Go.RowKit

/-- Items as text, behind what stands there; each item behind the first with a blank ahead. -/
def pI : Its → Bool → List Int → List Int
  | .nil, _, b => b
  | .cons k _ _ sub r, more, b => if 65536 < b.length then b else
    pI r true (if k = 3 then (if more then b ++ [32] else b) ++ [49] else pI sub false ((if more then b ++ [32] else b) ++ [91]) ++ [93])
def p1 (k : Int) (sub : Its) (b : List Int) : List Int := if k = 3 then b ++ [49] else pI sub false (b ++ [91]) ++ [93]
set_option maxRecDepth 100000 in
theorem pI_cons (k n : Int) (t : ByteArray) (sub r : Its) (more : Bool) (b : List Int) : pI (.cons k n t sub r) more b = if 65536 < b.length then b else pI r true (p1 k sub (if more then b ++ [32] else b)) := by
  rw [pI]; rfl
/-- The Int 1 and Lists alone. -/
def Its.IL : Its → Prop
  | .nil => True
  | .cons k n _ sub r => (k = 3 ∧ n = 1 ∨ k = 7) ∧ sub.IL ∧ r.IL
set_option maxRecDepth 100000 in
theorem Its.IL.drop : ∀ (l : Its) (i : Nat), l.IL → (l.drop i).IL
  | l, 0, h => by simpa [Its.drop] using h
  | .nil, _ + 1, _ => trivial
  | .cons _ _ _ _ r, i + 1, h => Its.IL.drop r i h.2.2
set_option maxRecDepth 100000 in
theorem pI_length : ∀ (l : Its) (more : Bool) (b : List Int), (pI l more b).length ≤ max b.length 65540 + l.sz
  | .nil, _, b => by rw [pI]; omega
  | .cons k n t sub r, more, b => by
    rw [pI_cons]
    simp only [Its.sz]
    split
    · omega
    · rename_i h
      have hb : (if more then b ++ [32] else b).length ≤ 65537 := by
        split
        · simp; omega
        · omega
      have hr := pI_length r true (p1 k sub (if more then b ++ [32] else b))
      generalize (if more then b ++ [32] else b) = b' at *
      have hs := pI_length sub false (b' ++ [91])
      have he : (p1 k sub b').length ≤ 65540 + sub.sz + 1 := by
        unfold p1
        split
        · simp; omega
        · simp only [List.length_append, List.length_cons, List.length_nil] at hs ⊢; omega
      omega
set_option maxRecDepth 100000 in
theorem pI_wf : ∀ (l : Its) (more : Bool) (b : List Int), Wf b → Wf (pI l more b)
  | .nil, _, b, h => by rw [pI]; exact h
  | .cons k n t sub r, more, b, h => by
    rw [pI_cons]
    split
    · exact h
    · have hb : Wf (if more then b ++ [32] else b) := by
        split
        · exact h.append (Wf.cons (by omega) Wf.nil)
        · exact h
      refine pI_wf r _ _ ?_
      unfold p1
      split
      · exact hb.append (Wf.cons (by omega) Wf.nil)
      · exact (pI_wf sub _ _ (hb.append (Wf.cons (by omega) Wf.nil))).append (Wf.cons (by omega) Wf.nil)

set_option maxRecDepth 100000 in
theorem alloc_old (u : World) (o : Obj) (a : Addr) (h : a.block < u.heap.size) : (u.alloc o).cell? a = u.cell? a := ((Below.refl u.heap.size u).alloc (Nat.le_refl _) o).cell h
set_option maxRecDepth 100000 in
theorem alloc_at (u : World) (x : Value) (ty H : Nat) (hH : u.heap.size = H) : (u.alloc (.cells #[x] ty)).cell? ⟨H, 0, none⟩ = some x := by subst hH; simp
set_option maxRecDepth 100000 in
theorem alloc4 (u : World) (a b c d : Value) (ty : Nat) : (u.alloc (.cells #[a, b, c, d] ty)).cell? ⟨u.heap.size, 3, none⟩ = some d := by simp
set_option maxRecDepth 100000 in
theorem cellsX (w : World) (a b c d x y : Value) (ty t5 : Nat) : (((w.alloc (.cells #[a, b, c, d] ty)).alloc (.cells #[x] t5)).alloc (.cells #[y] t5)).cell? ⟨w.heap.size, 3, none⟩ = some d ∧
    (((w.alloc (.cells #[a, b, c, d] ty)).alloc (.cells #[x] t5)).alloc (.cells #[y] t5)).cell? ⟨w.heap.size + 1, 0, none⟩ = some x ∧ (((w.alloc (.cells #[a, b, c, d] ty)).alloc (.cells #[x] t5)).alloc (.cells #[y] t5)).cell? ⟨w.heap.size + 1 + 1, 0, none⟩ = some y := by
  refine ⟨?_, ?_, alloc_at _ _ _ _ (by simp)⟩
  · rw [alloc_old _ _ _ (by simp; omega), alloc_old _ _ _ (by simp)]
    exact alloc4 _ _ _ _ _ _
  · rw [alloc_old _ _ _ (by simp)]
    exact alloc_at _ _ _ _ (by simp)

/-- What printItems does of items that lie in memory, in whatever world. -/
def PrtIs (l : Its) (so : Option Addr) (m c : Nat) : Prop := ∀ (v : Value) (B : Nat) (b : List Int) (w : World), OwnB w B v b → B ≤ w.heap.size → SlI w (· < B) so m c l → Wf b → b.length ≤ 65538 → l.sz + 1000000 ≤ 140737488355328 →
    Calls Tryz.prog 20 #[v, .slice so m c] w fun e w' => ∃ v', e = .returned v' ∧ OwnB w' B v' (pI l false b) ∧ Gr w v w' v'

set_option maxHeartbeats 1000000 in
set_option maxRecDepth 100000 in
theorem printItem_of (k n : Int) (t : ByteArray) (so : Option Addr) (m c : Nat) (sub : Its) (v : Value) (B : Nat) (b : List Int) (w : World) (hw : OwnB w B v b) (hB : B ≤ w.heap.size) (hs : SlI w (· < B) so m c sub)
    (hb : Wf b) (hb0 : b.length ≤ 65537) (hl : sub.sz + 1000000 ≤ 140737488355328) (hk : k = 3 ∧ n = 1 ∨ k = 7) (hsub : PrtIs sub so m c) :
    Calls Tryz.prog 30 #[v, .agg #[.int .i64 k, .int .i64 n, .string t, .slice so m c]] w fun e w' => ∃ v', e = .returned v' ∧ OwnB w' B v' (p1 k sub b) ∧ Gr w v w' v' := by
  have Hw := hidden hw
  have Hs := hidden hs
  have Hsub := hidden hsub
  have hpl := pI_length sub false (b ++ [91])
  have hb1 : (b ++ [91]).length = b.length + 1 := by simp
  rw [hb1] at hpl
  have b0 : ∀ o, Below B w (w.alloc o) := fun o => (Below.refl _ _).alloc hB o
  have hne : ∀ k', v.ownBlock = some k' → k' < w.heap.size := fun k' hk' => (World.ownsRow.lt (show w.ownsRow B 5 1 _ _ _ from hw) k' hk').2
  have Hne := hidden hne
  clear hw hs hsub hne
  rcases hk with ⟨rfl, rfl⟩ | rfl
  · go_enter Tryz.func30, Tryz.ntmps30
    go_wp2_with (go_at_call 50; refine (appInt_1 v B b _ (Hw.out.alloc _) (by simp; omega) (by omega)).mono ?_; rintro e w1 ⟨v1, rfl, ho1, hg1⟩)
    go_ret
    exact ⟨_, rfl, by simpa [p1] using ho1, (Gr.alloc _ _ _).trans hg1⟩
  · have e0 : p1 7 sub b = pI sub false (b ++ [91]) ++ [93] := by unfold p1; rw [if_neg (by decide)]
    rw [e0]
    go_enter Tryz.func30, Tryz.ntmps30
    go_wp2_with fail
    go_region_held3 (fun w' => w'.cell? ⟨w.heap.size, 3, none⟩ = some (.slice so m c))
      (first | exact s4 | exact s3 | exact s2 | go_keep)
      (first | (refine step_app1 (by rfl) _ _ (by rfl) B b 91 _ _ (by rfl) (by rfl) (Hw.out.on (Nat.le_refl _) (by go_grown)) (by first | exact (cellsX _ _ _ _ _ _ _ _ _).2.1 | exact (cellsX _ _ _ _ _ _ _ _ _).2.2 | (simp; done)) (by omega) (by simp; omega) ?_; intro v2 w2 ho2 hg2; have G2 : Gr w v w2 v2 := (Gr.ofBelow _ (show Below w.heap.size w _ from by go_grown)).trans hg2; have R2 : Below B w w2 := G2.below Hw.out hB; have hB2 : B ≤ w2.heap.size := (by have := R2.size; omega); have hz2 : w.heap.size + 2 ≤ w2.heap.size := (by have := hg2.grow.size; simp at this; omega); have hv2 : some w.heap.size ≠ v2.ownBlock := hg2.ne (by simp; omega) (fun k' h => Nat.ne_of_lt (Hne.out _ h)); have s2 : w2.cell? ⟨w.heap.size, 3, none⟩ = some (.slice so m c) := (hg2.cell _ (by simp; omega) (fun h => absurd (Hne.out _ h.symm) (Nat.lt_irrefl _))).trans (by first | exact (cellsX _ _ _ _ _ _ _ _ _).1 | (simp; done)); have hvB : some w2.heap.size ≠ v2.ownBlock := (fun h => absurd (World.ownsRow.lt (show w2.ownsRow B 5 1 _ _ _ from ho2) _ h.symm).2 (Nat.lt_irrefl _))) | (go_at_call 20; refine (Hsub.out v2 B (b ++ [91]) _ (ho2.on (Nat.le_refl _) (by go_grown)) (by first | omega | (simp; omega)) ((Hs.out.onB R2).on (Nat.le_refl _) (by go_grown)) (hb.append (Wf.cons (by omega) Wf.nil)) (by simp; omega) hl).mono ?_; rintro e w3 ⟨v3, rfl, ho3, hg3⟩; have G3 : Gr w2 v2 w3 v3 := (Gr.ofBelow _ (show Below w2.heap.size w2 _ from by go_grown)).trans hg3; have hz3 : w2.heap.size ≤ w3.heap.size := G3.grow.size; have s3 : w3.cell? ⟨w.heap.size, 3, none⟩ = some (.slice so m c) := (G3.cell _ (Nat.lt_of_lt_of_le (Nat.lt_add_of_pos_right (by decide)) hz2) hv2).trans s2) | (refine step_app1 (by rfl) _ _ (by rfl) B (pI sub false (b ++ [91])) 93 _ _ (by rfl) (by rfl) (ho3.on (Nat.le_refl _) (by go_grown)) (by first | exact alloc_at _ _ _ _ rfl | exact (hg3.cell ⟨w2.heap.size, 0, none⟩ (by simp) hvB).trans (alloc_at _ _ _ _ rfl) | exact (hg3.cell ⟨w.heap.size + 1, 0, none⟩ (by first | (show w.heap.size + 1 < w2.heap.size; have := hg2.grow.size; simp at this; omega)) (hg2.ne (k := w.heap.size + 1) (by first | (simp; done) | (simp; omega)) (fun k' h => by have := Hne.out k' h; omega))).trans ((hg2.cell ⟨w.heap.size + 1, 0, none⟩ (by first | (simp; done) | (simp; omega)) (fun h => absurd (Hne.out (w.heap.size + 1) h.symm) (by omega))).trans (cellsX _ _ _ _ _ _ _ _ _).2.1) | exact (hg3.cell ⟨w.heap.size + 1 + 1, 0, none⟩ (by first | (show w.heap.size + 1 + 1 < w2.heap.size; have := hg2.grow.size; simp at this; omega)) (hg2.ne (k := w.heap.size + 1 + 1) (by first | (simp; done) | (simp; omega)) (fun k' h => by have := Hne.out k' h; omega))).trans ((hg2.cell ⟨w.heap.size + 1 + 1, 0, none⟩ (by first | (simp; done) | (simp; omega)) (fun h => absurd (Hne.out (w.heap.size + 1 + 1) h.symm) (by omega))).trans (cellsX _ _ _ _ _ _ _ _ _).2.2)) (by omega) (by first | omega | (simp; omega)) ?_; intro v4 w4 ho4 hg4; have G4 : Gr w3 v3 w4 v4 := (Gr.ofBelow _ (show Below w3.heap.size w3 _ from by go_grown)).trans hg4; have hv3 : some w.heap.size ≠ v3.ownBlock := G3.ne (by omega) (fun k' h e => hv2 (by rw [h, e])); have s4 : w4.cell? ⟨w.heap.size, 3, none⟩ = some (.slice so m c) := (G4.cell _ (show w.heap.size < w3.heap.size by omega) hv3).trans s3))
    all_goals go_wp2
    all_goals go_ret
    all_goals exact ⟨_, rfl, ho4, G2.trans (G3.trans G4)⟩
end Go.Proofs.YtpiijmionafmcaaGreatDoor

/- tuple.Print of the Int 1 and of Lists: the loop, and the whole. -/

namespace Go.Proofs.YtpiijmionafmcaaGreatDoor
open Go.RowKit

set_option maxRecDepth 100000 in
theorem cells_new (u : World) (a b c d : Value) (ty : Nat) : (u.alloc (.cells #[a, b, c, d] ty)).cell? ⟨u.heap.size, 0, none⟩ = some a ∧ (u.alloc (.cells #[a, b, c, d] ty)).cell? ⟨u.heap.size, 1, none⟩ = some b ∧ (u.alloc (.cells #[a, b, c, d] ty)).cell? ⟨u.heap.size, 2, none⟩ = some c ∧ (u.alloc (.cells #[a, b, c, d] ty)).cell? ⟨u.heap.size, 3, none⟩ = some d := by
  simp
set_option maxRecDepth 100000 in
theorem one_ownH (u : World) (x : Int) (H : Nat) (hH : u.heap.size = H) : OwnB (u.alloc (.cells #[.int .u8 x] 5)) H (.slice (some ⟨H, 0, none⟩) 1 1) [x] := by subst hH; exact one_own u x
set_option maxRecDepth 100000 in
theorem p1_length (k : Int) (sub : Its) (b : List Int) (hb : b.length ≤ 65537) : (p1 k sub b).length ≤ 65541 + sub.sz := by
  have hs := pI_length sub false (b ++ [91])
  unfold p1
  split
  · simp; omega
  · simp only [List.length_append, List.length_cons, List.length_nil] at hs ⊢; omega
set_option maxRecDepth 100000 in
theorem p1_wf (k : Int) (sub : Its) (b : List Int) (h : Wf b) : Wf (p1 k sub b) := by
  unfold p1
  split
  · exact h.append (Wf.cons (by omega) Wf.nil)
  · exact (pI_wf sub _ _ (h.append (Wf.cons (by omega) Wf.nil))).append (Wf.cons (by omega) Wf.nil)
set_option maxRecDepth 100000 in
theorem pI_long (l : Its) (more : Bool) (b : List Int) (h : 65536 < b.length) : pI l more b = b := by
  cases l with
  | nil => rw [pI]
  | cons => rw [pI_cons, if_pos h]

set_option maxHeartbeats 1000000 in
set_option maxRecDepth 100000 in
theorem printItems_all : ∀ (N : Nat) (l : Its), l.sz < N → l.IL → ∀ (so : Option Addr) (m c : Nat), PrtIs l so m c
  | 0, l, h => by omega
  | N + 1, l, h => by
    intro hil so m c v B b w hw hB hs hwf hb0 hlen
    have Hih := hidden (printItems_all N)
    have hm := hs.hlen
    have hroom := hs.hroom
    have Hs := hidden hs
    have Hw := hidden hw
    have Hk := hidden hil
    have Hwf := hidden hwf
    clear hs hw hil hwf
    go_enter Tryz.func20, Tryz.ntmps20
    go_wp2_with fail
    go_loopw [0, 9] (fun u i wr => ∃ (k : Nat) (b' : List Int), k ≤ m ∧ i = .int .i64 k ∧ OwnB wr B u b' ∧ Gr w v wr u ∧ pI l false b = pI (l.drop k) (decide (0 < k)) b' ∧ Wf b' ∧ b'.length + (l.drop k).sz ≤ 131100 + l.sz) (fun _ i _ => m - (intOf i).toNat)
    case atStart => exact ⟨0, b, by omega, rfl, Hw.out, Gr.refl _ _, by simp [Its.drop], Hwf.out, by simp [Its.drop]; omega⟩
    case round =>
      obtain ⟨k, b', hk, rfl, hown, hbel, he, hwf', hlb⟩ := hrel
      have hBr : B ≤ wr.heap.size := by have := hbel.grow.size; omega
      have HE := hidden he
      have HO := hidden hown
      have HB := hidden (hbel.below Hw.out hB)
      have HG := hidden hbel
      have HW := hidden hwf'
      clear he hown hbel hwf'
      by_cases hlt : k < m
      · obtain ⟨bb, off, kk, nn, t, sub, r, xo, xm, xc, rfl, hbb, e1', e2', c0, c1, c2, c3, hsub, o1, o2, o3⟩ := (Hs.out.onB HB.out).item k hlt
        have HSub := hidden hsub
        have HK := hidden (Hk.out.drop l k)
        have hsz := Its.sub_sz e1'
        have hdz := Its.drop_sz l k
        rw [e1'] at HE HK
        rw [e1'] at hlb hdz
        simp only [Its.sz] at hlb hdz
        clear hsub
        by_cases hlong : 65536 < b'.length
        · obtain ⟨ao, cv, rfl, hsl, _⟩ := HO.out.sl HW.out (by omega)
          have hlong' : (65536 : Int) < b'.length := by omega
          clear hsl
          go_wp2_with fail
          go_ret
          refine ⟨_, rfl, ?_, HG.out.trans (Gr.alloc _ _ _)⟩
          rw [HE.out, pI_long _ _ _ hlong]
          exact HO.out.alloc _
        · obtain ⟨ao, cv, rfl, hsl, _⟩ := HO.out.sl HW.out (by omega)
          have hlong' : ¬ (65536 : Int) < b'.length := by omega
          clear hsl
          by_cases hk0 : 0 < k
          · have hk0' : (0 : Int) < k := by omega
            have hd : decide (0 < k) = true := by simp [hk0]
            rw [hd] at HE
            have hne : ∀ k', (Value.slice ao b'.length cv).ownBlock = some k' → k' < wr.heap.size := fun k' hk' => (World.ownsRow.lt (show wr.ownsRow B 5 1 _ _ _ from HO.out) k' hk').2
            have Hne := hidden hne
            clear hne hd
            go_wp2_with (at_builtin; refine app_all _ rfl _ _ rfl B (wr.heap.size + 1) b' [32] _ _ rfl rfl ((HO.out.alloc _).alloc _) (one_ownH _ _ _ (by simp)) (Wf.cons (by omega) Wf.nil) (by simp; omega) (by simp; omega) ?_)
            intro v2 w2 ho2 hg2
            have G2 : Gr wr _ w2 v2 := ((Gr.alloc _ _ _).trans (Gr.alloc _ _ _)).trans hg2
            have R2 : Below B wr w2 := G2.below HO.out hBr
            have hB2 : B ≤ w2.heap.size := by have := R2.size; omega
            have hfar := fun j => hg2.cell (⟨wr.heap.size, j, none⟩ : Addr) (by simp; omega) (fun h => absurd (Hne.out _ h.symm) (Nat.lt_irrefl _))
            have f0 := (hfar 0).trans ((alloc_old _ _ _ (by simp)).trans (cells_new wr _ _ _ _ _).1)
            have f1 := (hfar 1).trans ((alloc_old _ _ _ (by simp)).trans (cells_new wr _ _ _ _ _).2.1)
            have f2 := (hfar 2).trans ((alloc_old _ _ _ (by simp)).trans (cells_new wr _ _ _ _ _).2.2.1)
            have f3 := (hfar 3).trans ((alloc_old _ _ _ (by simp)).trans (cells_new wr _ _ _ _ _).2.2.2)
            have Ho2 := hidden ho2
            have HG2 := hidden G2
            clear hfar hg2 ho2 G2
            go_wp2_with (go_at_call 30; refine (printItem_of kk nn t xo xm xc sub v2 B (b' ++ [32]) _ Ho2.out hB2 (HSub.out.onB R2) (HW.out.append (Wf.cons (by omega) Wf.nil)) (by simp; omega) (by omega) HK.out.1 (Hih.out sub (by omega) HK.out.2.1 xo xm xc)).mono ?_; rintro e w3 ⟨v3, rfl, ho3, hg3⟩)
            go_roundw
            case rel =>
              have hel := p1_length kk sub (b' ++ [32]) (by simp; omega)
              refine ⟨k + 1, _, by omega, by go_num, ho3, HG.out.trans (HG2.out.trans hg3), ?_, p1_wf _ _ _ (HW.out.append (Wf.cons (by omega) Wf.nil)), ?_⟩
              · rw [HE.out, pI_cons, if_neg hlong, e2', show decide (0 < k + 1) = true from by simp]; rfl
              · rw [e2']; omega
            case measure => simp [intOf]; omega
          · have hk0' : (k : Int) ≤ 0 := by omega
            have hd : decide (0 < k) = false := by simp; omega
            rw [hd] at HE
            clear hd
            go_wp2_with (go_at_call 30; refine (printItem_of kk nn t xo xm xc sub _ B b' _ (HO.out.alloc _) (by simp; omega) (HSub.out.on (Nat.le_refl _) ((Below.refl _ _).alloc (Nat.le_refl _) _)) HW.out (by omega) (by omega) HK.out.1 (Hih.out sub (by omega) HK.out.2.1 xo xm xc)).mono ?_; rintro e w3 ⟨v3, rfl, ho3, hg3⟩)
            go_roundw
            case rel =>
              have hel := p1_length kk sub b' (by omega)
              refine ⟨k + 1, _, by omega, by go_num, ho3, HG.out.trans ((Gr.alloc _ _ _).trans hg3), ?_, p1_wf _ _ _ HW.out, ?_⟩
              · rw [HE.out, pI_cons, if_neg hlong, e2', show decide (0 < k + 1) = true from by simp]; rfl
              · rw [e2']; omega
            case measure => simp [intOf]; omega
      · obtain rfl : k = m := by omega
        go_wp2
        go_ret
        refine ⟨_, rfl, ?_, HG.out⟩
        rw [HE.out, ← hm, Its.drop_all, pI]
        exact HO.out
set_option maxRecDepth 100000 in
theorem conv_str {w : World} {ao : Option Addr} {n cap : Nat} {l : List Int} (hs : Sl w ao n cap l) :
    (convert 22 9 (.slice ao n cap)).run Tryz.prog w = .ok (.string (strOfNums l)) w := by
  obtain ⟨hlen, hcap, hroom, hwf, hnil, hat⟩ := hs
  rcases hat with rfl | ⟨b, off, rfl, hb, hc⟩
  · obtain rfl : l = [] := List.eq_nil_of_length_eq_zero hlen
    rw [run_convert_bytes_string w 22 9 5 ao 0 cap Tryz.underlying22 Tryz.underlying5 Tryz.underlying9]
    cases ao with
    | none => simp [Conv.bytesToString, Sem.run_pure, strOfNums]; rfl
    | some a =>
      rw [run_bytesToString w a 0 cap [] (by simpa using run_loadCells_list (P := Tryz.prog) w a [] (fun j v h => by cases h))]
      rfl
  · exact run_convert_bytes_arg w 22 5 Tryz.underlying22 Tryz.underlying5 b off n cap l hlen hc 9 Tryz.underlying9

set_option maxHeartbeats 400000 in
set_option maxRecDepth 100000 in
theorem print_any (l : Its) (ao : Option Addr) (n cap : Nat) (w : World) (hs : SlI w Tp ao n cap l) (hil : l.IL) (htx : l.Tx fun _ => False) (hc : chk (fun _ => true) l 0 = 0) (hl : (pI l false []).length ≤ 65536) (hz : l.sz + 1000000 ≤ 140737488355328) :
    Calls Tryz.prog 11 #[.slice ao n cap] w fun e w' => e = .returned (.tuple #[.string (strOfNums (pI l false [])), .int .i64 0]) ∧ Below w.heap.size w w' := by
  have htx' : ∀ l : Its, (l.Tx fun _ => False) → l.Tx (ValidAt (fun _ => True) (fun _ => true)) := by
    intro l
    induction l with
    | nil => intro _; trivial
    | cons k n t sub r ih1 ih2 => exact fun h => ⟨fun h6 => (h.1 h6).elim, ih1 h.2.1, ih2 h.2.2⟩
  have Hc := hidden (check_any (fun _ => True) (fun _ => true) (fun _ _ _ _ => trivial) l ao n cap w trivial hs (htx' l htx))
  have Hs := hidden hs
  have Hk := hidden hil
  have Hwf := hidden (pI_wf l false [] Wf.nil)
  clear hs htx htx'
  go_enter Tryz.func11, Tryz.ntmps11
  go_wp2_with (first | (go_at_call 16; refine Hc.out.mono ?_; rintro e w1 ⟨rfl, hb1⟩; rw [hc]) | (go_at_call 20; refine (printItems_all (l.sz + 1) l (by omega) Hk.out ao n cap _ w1.heap.size [] w1 (OwnB.nil _ _) (Nat.le_refl _) ((Hs.out.on (Nat.le_refl _) hb1).low (Nat.le_refl _)) Wf.nil (by simp) hz).mono ?_; rintro e w2 ⟨v2, rfl, ho2, hg2⟩; obtain ⟨a2, c2, rfl, s2, _⟩ := ho2.sl Hwf.out (by omega); have hl' : ¬ (65536 : Int) < (pI l false []).length := (by omega); have HG := hidden (hg2.below (l := []) (OwnB.nil _ _) (Nat.le_refl _)); have hcv := conv_str s2; clear s2 ho2 hg2))
  go_returns
  exact ⟨rfl, hb1.trans (HG.out.mono hb1.size)⟩
end Go.Proofs.YtpiijmionafmcaaGreatDoor

/- The chapter's first examples: Parse of "[1 []]": the word 1. -/

namespace Go.Proofs.YtpiijmionafmcaaGreatDoor
open Go.RowKit

/-- The word 1. -/
def w1 : ByteArray := ⟨#[49]⟩
set_option maxRecDepth 100000 in
theorem bytesWorld_or {w w' : World} (h : w' = w ∨ ∃ t, w' = Lib.bytesWorld w 5 t) : Below w.heap.size w w' := by
  rcases h with rfl | ⟨t, rfl⟩
  · exact Below.refl _ _
  · exact Lib.bytesWorld_below w 5 t
set_option maxRecDepth 100000 in
/-- A struct of four cells in a block of its own, behind a call: what it holds, and that it may be written. -/
theorem cells4r {w w1 : World} {a b c d : Value} {ty : Nat} (h : Below (w.alloc (.cells #[a, b, c, d] ty)).heap.size (w.alloc (.cells #[a, b, c, d] ty)) w1) :
    (w1.cell? ⟨w.heap.size, 0, none⟩ = some a ∧ w1.cell? ⟨w.heap.size, 1, none⟩ = some b ∧ w1.cell? ⟨w.heap.size, 2, none⟩ = some c ∧ w1.cell? ⟨w.heap.size, 3, none⟩ = some d) ∧ (w1.frozen? ⟨w.heap.size, 0, none⟩ = false ∧ w1.frozen? ⟨w.heap.size, 1, none⟩ = false ∧ w1.frozen? ⟨w.heap.size, 2, none⟩ = false ∧ w1.frozen? ⟨w.heap.size, 3, none⟩ = false) := by
  refine ⟨cells4 h, ?_, ?_, ?_, ?_⟩
  all_goals (refine (h.frozen (by simp)).trans (by simp))
set_option maxRecDepth 100000 in
theorem guessWord_1 (w : World) : Calls Tryz.prog 101 #[.string ⟨#[49]⟩] w fun e w' => e = .returned (.agg #[.int .i64 3, .int .i64 1, .string ⟨#[]⟩, .slice none 0 0]) ∧ Below w.heap.size w w' := by
  have hp : Lib.parseIntB 64 (⟨#[49]⟩ : ByteArray).data.toList = .ok 1 := by decide
  have HP := hidden hp
  clear hp
  go_enter Tryz.func101, Tryz.ntmps101
  go_wp2_with (first | (go_at_call 117; refine (Tryz.strconv_ParseInt_10_at64_ok ⟨#[49]⟩ (by decide) 1 HP.out _).mono ?_; rintro e w1 ⟨rfl, hw1⟩; have hb1 := bytesWorld_or hw1; obtain ⟨⟨k0, k1, k2, k3⟩, f0, f1, f2, f3⟩ := cells4r hb1; have HB : Hid (Below w.heap.size w w1) := (show Below w.heap.size w _ from by go_grown).trans (hb1.mono (by simp)); clear hw1 hb1))
  refine bodyPost_ret (v := .agg #[.int .i64 3, .int .i64 1, .string ⟨#[]⟩, .slice none 0 0]) (by simp [results, Tryz.results101, go_sem, k0, k1, k2, k3]; try rfl) rfl ?_
  exact ⟨rfl, (((HB.out.setCell (by simp) _).setCell (by simp) _).setCell (by simp) _).setCell (by simp) _⟩

set_option maxRecDepth 100000 in
theorem Sl.set {w : World} {b off n cap : Nat} {l : List Int} (h : Sl w (some ⟨b, off, none⟩) n cap l) (p : Addr) (v : Value) (hp : p.block ≠ b) : Sl (w.setCell p v) (some ⟨b, off, none⟩) n cap l := by
  refine ⟨h.hlen, h.hcap, h.hroom, h.wf, h.hnil, ?_⟩
  rcases h.hat with h0 | ⟨b', off', e, hlt, hc⟩
  · exact .inl h0
  · simp only [Option.some.injEq, Addr.mk.injEq, and_true] at e
    obtain ⟨rfl, rfl⟩ := e
    exact .inr ⟨b, off, rfl, by simpa using hlt, fun i hi => (World.cell?_setCell_far _ _ _ _ hp).trans (hc i hi)⟩

set_option maxRecDepth 100000 in
theorem print1 (W : World) : Calls Tryz.prog 30 #[.slice none 0 0, .agg #[.int .i64 3, .int .i64 1, .string ⟨#[]⟩, .slice none 0 0]] W fun e w' => ∃ b2 o2 c2, e = .returned (.slice (some ⟨b2, o2, none⟩) 1 c2) ∧ Sl w' (some ⟨b2, o2, none⟩) 1 c2 [49] ∧ W.heap.size ≤ b2 ∧ Below W.heap.size W w' := by
  refine (printItem_of 3 1 ⟨#[]⟩ none 0 0 .nil (.slice none 0 0) W.heap.size [] W (OwnB.nil _ _) (Nat.le_refl _) (SlI.none _ _) Wf.nil (by simp) (by simp [Its.sz]) (.inl ⟨rfl, rfl⟩) (printItems_all 1 .nil (by simp [Its.sz]) trivial none 0 0)).mono ?_
  rintro e w2 ⟨v2, rfl, ho2, hg2⟩
  have e1 : p1 3 .nil [] = [49] := by simp [p1]
  rw [e1] at ho2
  obtain ⟨a2, c2, rfl, s2, hge⟩ := ho2.sl (Wf.cons (by omega) Wf.nil) (by simp)
  rcases s2.hat with h | ⟨b2, o2, rfl, hb2, _⟩
  · simp at h
  · exact ⟨b2, o2, c2, rfl, s2, hge _ rfl, hg2.below (l := []) (OwnB.nil _ _) (Nat.le_refl _)⟩

set_option maxHeartbeats 400000 in
set_option maxRecDepth 100000 in
theorem parseWord_1 (w : World) : Calls Tryz.prog 83 #[.string ⟨#[49]⟩] w fun e w' => e = .returned (.tuple #[.agg #[.int .i64 3, .int .i64 1, .string ⟨#[]⟩, .slice none 0 0], .bool true]) ∧ Below w.heap.size w w' := by
  go_enter Tryz.func83, Tryz.ntmps83
  go_wp2_with (first | (go_at_call 101; refine (guessWord_1 _).mono ?_; rintro e w1 ⟨rfl, hb1⟩; obtain ⟨⟨k0, k1, k2, k3⟩, f0, f1, f2, f3⟩ := cells4r hb1; have HB : Hid (Below w.heap.size w w1) := (show Below w.heap.size w _ from by go_grown).trans (hb1.mono (by simp)); have hz1 : w.heap.size + 1 ≤ w1.heap.size := (by have := hb1.size; simpa using this); clear hb1))
  have hfb : ∀ W, Below w1.heap.size w1 W → (W.cell? ⟨w.heap.size, 0, none⟩ = some (.int .i64 0) ∧ W.cell? ⟨w.heap.size, 1, none⟩ = some (.int .i64 0) ∧ W.cell? ⟨w.heap.size, 2, none⟩ = some (.string ⟨#[]⟩) ∧ W.cell? ⟨w.heap.size, 3, none⟩ = some (.slice none 0 0)) ∧ (W.frozen? ⟨w.heap.size, 0, none⟩ = false ∧ W.frozen? ⟨w.heap.size, 1, none⟩ = false ∧ W.frozen? ⟨w.heap.size, 2, none⟩ = false ∧ W.frozen? ⟨w.heap.size, 3, none⟩ = false) :=
    fun W h => ⟨⟨(h.cell (by simp; omega)).trans k0, (h.cell (by simp; omega)).trans k1, (h.cell (by simp; omega)).trans k2, (h.cell (by simp; omega)).trans k3⟩, (h.frozen (by simp; omega)).trans f0, (h.frozen (by simp; omega)).trans f1, (h.frozen (by simp; omega)).trans f2, (h.frozen (by simp; omega)).trans f3⟩
  have hib : ∀ W, Below (w1.heap.size + 1) (w1.alloc (.cells #[.int .i64 3, .int .i64 1, .string ⟨#[]⟩, .slice none 0 0] 36)) W → W.cell? ⟨w1.heap.size, 0, none⟩ = some (.int .i64 3) ∧ W.cell? ⟨w1.heap.size, 1, none⟩ = some (.int .i64 1) ∧ W.cell? ⟨w1.heap.size, 2, none⟩ = some (.string ⟨#[]⟩) ∧ W.cell? ⟨w1.heap.size, 3, none⟩ = some (.slice none 0 0) :=
    fun W h => ⟨(h.cell (by simp)).trans (by simp), (h.cell (by simp)).trans (by simp), (h.cell (by simp)).trans (by simp), (h.cell (by simp)).trans (by simp)⟩
  have HIB := hidden hib
  clear hib
  have HFB := hidden hfb
  clear hfb
  have hst : strOfNums [49] = ⟨#[49]⟩ := by kernel_rfl
  go_region_with (go_at_call 30; refine (print1 _).mono ?_; rintro e w2 ⟨b2, o2, c2, rfl, s2, hge, hb2⟩; have hbw : Below w1.heap.size w1 w2 := (show Below w1.heap.size w1 _ from by go_grown).trans (hb2.mono (by simp)); obtain ⟨⟨g0, g1, g2, g3⟩, e0, e1, e2, e3⟩ := HFB.out w2 hbw; obtain ⟨i0, i1, i2, i3⟩ := HIB.out w2 ((show Below (w1.heap.size + 1) (w1.alloc (.cells #[.int .i64 3, .int .i64 1, .string ⟨#[]⟩, .slice none 0 0] 36)) _ from by go_grown).trans (hb2.mono (by simp))); have hne : w.heap.size ≠ b2 := (by simp at hge; omega); have hcv := conv_str s2; have hcvS := fun x0 x1 x2 x3 => conv_str ((((s2.set ⟨w.heap.size, 0, none⟩ x0 hne).set ⟨w.heap.size, 1, none⟩ x1 hne).set ⟨w.heap.size, 2, none⟩ x2 hne).set ⟨w.heap.size, 3, none⟩ x3 hne); have HBW := hidden hbw; clear s2 hb2 hge hbw)
  all_goals go_wp2
  all_goals (refine bodyPost_ret (v := .tuple #[.agg #[.int .i64 3, .int .i64 1, .string ⟨#[]⟩, .slice none 0 0], .bool true]) (by simp [results, Tryz.results83, go_sem, g0, g1, g2, g3]; try rfl) rfl ?_)
  all_goals (refine ⟨rfl, ((((HB.out.trans (HBW.out.mono (by omega))).setCell (by simp) _).setCell (by simp) _).setCell (by simp) _).setCell (by simp) _⟩)
end Go.Proofs.YtpiijmionafmcaaGreatDoor

/- The chapter's first examples: Parse of "[1 []]". -/

namespace Go.Proofs.YtpiijmionafmcaaGreatDoor
open Go.RowKit

/-- The text. -/
def tx6 : ByteArray := ⟨#[91, 49, 32, 91, 93, 93]⟩

set_option maxRecDepth 100000 in
theorem res4 {w2 : World} {H : Nat} {y0 y1 y2 y3 : Value} (x0 x1 x2 x3 : Value) (o : Obj) (m0 : w2.cell? ⟨H, 0, none⟩ = some y0) (m1 : w2.cell? ⟨H, 1, none⟩ = some y1) (m2 : w2.cell? ⟨H, 2, none⟩ = some y2) (m3 : w2.cell? ⟨H, 3, none⟩ = some y3) (h : H < w2.heap.size) :
    (((((w2.setCell ⟨H, 0, none⟩ x0).setCell ⟨H, 1, none⟩ x1).setCell ⟨H, 2, none⟩ x2).setCell ⟨H, 3, none⟩ x3).alloc o).cell? ⟨H, 0, none⟩ = some x0 ∧
    (((((w2.setCell ⟨H, 0, none⟩ x0).setCell ⟨H, 1, none⟩ x1).setCell ⟨H, 2, none⟩ x2).setCell ⟨H, 3, none⟩ x3).alloc o).cell? ⟨H, 1, none⟩ = some x1 ∧
    (((((w2.setCell ⟨H, 0, none⟩ x0).setCell ⟨H, 1, none⟩ x1).setCell ⟨H, 2, none⟩ x2).setCell ⟨H, 3, none⟩ x3).alloc o).cell? ⟨H, 2, none⟩ = some x2 ∧
    (((((w2.setCell ⟨H, 0, none⟩ x0).setCell ⟨H, 1, none⟩ x1).setCell ⟨H, 2, none⟩ x2).setCell ⟨H, 3, none⟩ x3).alloc o).cell? ⟨H, 3, none⟩ = some x3 := by
  refine ⟨(alloc_old _ _ _ (by simpa using h)).trans ?_, (alloc_old _ _ _ (by simpa using h)).trans ?_, (alloc_old _ _ _ (by simpa using h)).trans ?_, (alloc_old _ _ _ (by simpa using h)).trans ?_⟩
  all_goals simp [m0, m1, m2, m3, go_sem]
set_option maxRecDepth 100000 in
theorem parseOne_1 (w : World) : Calls Tryz.prog 54 #[.string ⟨#[49, 32, 91, 93, 93]⟩] w fun e w' => e = .returned (.tuple #[.agg #[.int .i64 3, .int .i64 1, .string ⟨#[]⟩, .slice none 0 0], .int .i64 1, .bool true]) ∧ Below w.heap.size w w' := by
  have hcp : ∀ w, Calls Tryz.prog 80 #[.string ⟨#[49, 32, 91, 93, 93]⟩, .string ⟨#[120, 39]⟩] w fun e w' => e = .returned (.tuple #[.string ⟨#[49, 32, 91, 93, 93]⟩, .bool false]) ∧ w' = w := fun w =>
    (Tryz.strings_CutPrefix ⟨#[49, 32, 91, 93, 93]⟩ ⟨#[120, 39]⟩ w).mono fun e w' ⟨he, hw⟩ => ⟨by rw [he]; kernel_rfl, hw⟩
  have hix : ∀ w, Calls Tryz.prog 82 #[.string ⟨#[49, 32, 91, 93, 93]⟩, .string ⟨#[32, 91, 93]⟩] w fun e w' => e = .returned (.int .i64 1) ∧ Below w.heap.size w w' := fun w =>
    (Tryz.strings_IndexAny_short ⟨#[49, 32, 91, 93, 93]⟩ ⟨#[32, 91, 93]⟩ w (by decide) (by decide) (fun j b h => (show ∀ b ∈ ([49, 32, 91, 93, 93] : List UInt8), b.toNat < 128 by decide) b (List.mem_of_getElem? h))).mono fun e w' ⟨he, pos, hw⟩ => ⟨by rw [he]; kernel_rfl, by rw [hw]; exact (Below.refl _ _).alloc (Nat.le_refl _) _⟩
  have hex : ByteArray.extract ⟨#[49, 32, 91, 93, 93]⟩ 0 1 = ⟨#[49]⟩ := by kernel_rfl
  have hq : (((⟨#[49, 32, 91, 93, 93]⟩ : ByteArray)[0].toNat : Int) == 34) = false := by decide
  have HCP := hidden hcp
  have HIX := hidden hix
  clear hcp hix
  go_enter Tryz.func54, Tryz.ntmps54
  go_wp2_with (first | (go_at_call 80; refine same_call (HCP.out _) ?_) | (go_at_call 82; refine (HIX.out _).mono ?_; rintro e w1 ⟨rfl, hb1⟩; obtain ⟨⟨k0, k1, k2, k3⟩, f0, f1, f2, f3⟩ := cells4r hb1; have HB : Hid (Below w.heap.size w w1) := (show Below w.heap.size w _ from by go_grown).trans (hb1.mono (by simp)); have hz1 : w.heap.size + 1 ≤ w1.heap.size := (by have := hb1.size; simpa using this); clear hb1) | (go_at_call 83; refine (parseWord_1 _).mono ?_; rintro e w2 ⟨rfl, hb2⟩; have m0 := (hb2.cell (p := ⟨w.heap.size, 0, none⟩) hz1).trans k0; have m1 := (hb2.cell (p := ⟨w.heap.size, 1, none⟩) hz1).trans k1; have m2 := (hb2.cell (p := ⟨w.heap.size, 2, none⟩) hz1).trans k2; have m3 := (hb2.cell (p := ⟨w.heap.size, 3, none⟩) hz1).trans k3; have n0 := (hb2.frozen (p := ⟨w.heap.size, 0, none⟩) hz1).trans f0; have n1 := (hb2.frozen (p := ⟨w.heap.size, 1, none⟩) hz1).trans f1; have n2 := (hb2.frozen (p := ⟨w.heap.size, 2, none⟩) hz1).trans f2; have n3 := (hb2.frozen (p := ⟨w.heap.size, 3, none⟩) hz1).trans f3; have hz2 : w.heap.size < w2.heap.size := Nat.lt_of_lt_of_le hz1 hb2.size; have HB2 := hidden (HB.out.trans (hb2.mono (by omega))); clear hb2))
  obtain ⟨a0, a1, a2, a3⟩ := res4 (.int .i64 3) (.int .i64 1) (.string ⟨#[]⟩) (.slice none 0 0) (.cells #[.int .i64 3, .int .i64 1, .string ⟨#[]⟩, .slice none 0 0] 36) m0 m1 m2 m3 hz2
  refine bodyPost_ret (v := .tuple #[.agg #[.int .i64 3, .int .i64 1, .string ⟨#[]⟩, .slice none 0 0], .int .i64 1, .bool true]) (by simp [results, Tryz.results54, go_sem, a0, a1, a2, a3]; try rfl) rfl ?_
  exact ⟨rfl, (by first | exact ((((HB2.out.alloc (Nat.le_of_lt hz2) _).setCell (by simp) _).setCell (by simp) _).setCell (by simp) _).setCell (by simp) _ | exact ((((HB2.out.setCell (by simp) _).setCell (by simp) _).setCell (by simp) _).setCell (by simp) _).alloc (by simp; omega) _)⟩

set_option maxHeartbeats 400000 in
set_option maxRecDepth 100000 in
theorem parseItem_11 (w : World) : Calls Tryz.prog 31 #[.string ⟨#[91, 49, 32, 91, 93, 93]⟩, .int .i64 1, .int .i64 1] w fun e w' => e = .returned (.tuple #[.agg #[.int .i64 3, .int .i64 1, .string ⟨#[]⟩, .slice none 0 0], .int .i64 2, .int .i64 0]) ∧ Below w.heap.size w w' := by
  have hex : ByteArray.extract ⟨#[91, 49, 32, 91, 93, 93]⟩ 1 6 = ⟨#[49, 32, 91, 93, 93]⟩ := by kernel_rfl
  have hq : (((⟨#[91, 49, 32, 91, 93, 93]⟩ : ByteArray)[1].toNat : Int) == 91) = false := by decide
  go_enter Tryz.func31, Tryz.ntmps31
  go_wp2_with (first | (go_at_call 54; refine (parseOne_1 _).mono ?_; rintro e w2 ⟨rfl, hb1⟩; obtain ⟨⟨m0, m1, m2, m3⟩, n0, n1, n2, n3⟩ := cells4r hb1; have HB2 : Hid (Below w.heap.size w w2) := (show Below w.heap.size w _ from by go_grown).trans (hb1.mono (by simp)); have hz2 : w.heap.size < w2.heap.size := Nat.lt_of_lt_of_le (by simp) hb1.size; clear hb1))
  obtain ⟨a0, a1, a2, a3⟩ := res4 (.int .i64 3) (.int .i64 1) (.string ⟨#[]⟩) (.slice none 0 0) (.cells #[.int .i64 3, .int .i64 1, .string ⟨#[]⟩, .slice none 0 0] 36) m0 m1 m2 m3 hz2
  refine bodyPost_ret (v := .tuple #[.agg #[.int .i64 3, .int .i64 1, .string ⟨#[]⟩, .slice none 0 0], .int .i64 2, .int .i64 0]) (by simp [results, Tryz.results31, go_sem, a0, a1, a2, a3]; try rfl) rfl ?_
  exact ⟨rfl, (by first | exact ((((HB2.out.alloc (Nat.le_of_lt hz2) _).setCell (by simp) _).setCell (by simp) _).setCell (by simp) _).setCell (by simp) _ | exact ((((HB2.out.setCell (by simp) _).setCell (by simp) _).setCell (by simp) _).setCell (by simp) _).alloc (by simp; omega) _)⟩

set_option maxRecDepth 100000 in
theorem parseItems_42 (w : World) : Calls Tryz.prog 21 #[.string ⟨#[91, 49, 32, 91, 93, 93]⟩, .int .i64 4, .int .i64 2] w fun e w' => e = .returned (.tuple #[.slice none 0 0, .int .i64 5, .int .i64 0]) ∧ Below w.heap.size w w' := by
  have hq : (((⟨#[91, 49, 32, 91, 93, 93]⟩ : ByteArray)[4].toNat : Int)) = 93 := by decide
  go_enter Tryz.func21, Tryz.ntmps21
  go_wp2
  refine wp_loop_rounds 1 ?_
  rw [rounds_succ]
  go_wp2
  go_returns
  exact ⟨rfl, Below.refl _ _⟩
end Go.Proofs.YtpiijmionafmcaaGreatDoor

/- The chapter's first examples: Parse of "[1 []]", the whole. -/

namespace Go.Proofs.YtpiijmionafmcaaGreatDoor
open Go.RowKit

set_option maxHeartbeats 400000 in
set_option maxRecDepth 100000 in
theorem parseItem_31 (w : World) : Calls Tryz.prog 31 #[.string ⟨#[91, 49, 32, 91, 93, 93]⟩, .int .i64 3, .int .i64 1] w fun e w' => e = .returned (.tuple #[.agg #[.int .i64 7, .int .i64 0, .string ⟨#[]⟩, .slice none 0 0], .int .i64 5, .int .i64 0]) ∧ Below w.heap.size w w' := by
  have hq : (((⟨#[91, 49, 32, 91, 93, 93]⟩ : ByteArray)[3].toNat : Int)) = 91 := by decide
  go_enter Tryz.func31, Tryz.ntmps31
  go_wp2_with (first | (go_at_call 21; refine (parseItems_42 _).mono ?_; rintro e w2 ⟨rfl, hb1⟩; obtain ⟨⟨m0, m1, m2, m3⟩, n0, n1, n2, n3⟩ := cells4r hb1; have HB2 : Hid (Below w.heap.size w w2) := (show Below w.heap.size w _ from by go_grown).trans (hb1.mono (by simp)); have hz2 : w.heap.size < w2.heap.size := Nat.lt_of_lt_of_le (by simp) hb1.size; clear hb1))
  refine bodyPost_ret (v := .tuple #[.agg #[.int .i64 7, .int .i64 0, .string ⟨#[]⟩, .slice none 0 0], .int .i64 5, .int .i64 0]) (by simp [results, Tryz.results31, go_sem, m0, m1, m2, m3]; try rfl) rfl ?_
  exact ⟨rfl, (((HB2.out.setCell (by simp) _).setCell (by simp) _).setCell (by simp) _).setCell (by simp) _⟩

set_option maxHeartbeats 1000000 in
set_option maxRecDepth 100000 in
theorem parseItems_11 (w : World) : Calls Tryz.prog 21 #[.string ⟨#[91, 49, 32, 91, 93, 93]⟩, .int .i64 1, .int .i64 1] w fun e w' => ∃ vo c, e = .returned (.tuple #[.slice vo 2 c, .int .i64 6, .int .i64 0]) ∧ SlI w' (w.heap.size ≤ ·) vo 2 c inn ∧ Below w.heap.size w w' := by
  have h1 : (((⟨#[91, 49, 32, 91, 93, 93]⟩ : ByteArray)[1].toNat : Int)) = 49 := by decide
  have h2 : (((⟨#[91, 49, 32, 91, 93, 93]⟩ : ByteArray)[2].toNat : Int)) = 32 := by decide
  have h3 : (((⟨#[91, 49, 32, 91, 93, 93]⟩ : ByteArray)[3].toNat : Int)) = 91 := by decide
  have h5 : (((⟨#[91, 49, 32, 91, 93, 93]⟩ : ByteArray)[5].toNat : Int)) = 93 := by decide
  go_enter Tryz.func21, Tryz.ntmps21
  go_wp2
  refine wp_loop_rounds 4 ?_
  rw [rounds_succ]
  go_wp2_with (first | (go_at_call 31; refine (parseItem_11 w).mono ?_; rintro e w1 ⟨rfl, hb1⟩) | (at_builtin; refine app_item _ rfl _ _ rfl w.heap.size 0 [] _ _ _ _ _ _ rfl rfl (World.ownsRow_nil _ _ _ _) (heap_new _ _ _ (by simp)) (one4 _ _ _ _ _ _) (by omega) (by have := hb1.size; simp; omega) ?_))
  intro v2 w2 ho2 hg2
  have R2 : Below w.heap.size w w2 := hb1.trans ((show Below w.heap.size w1 _ from ((Below.refl _ _).alloc hb1.size _).alloc (by have := hb1.size; simp; omega) _).trans (own_below (World.ownsRow_nil _ w.heap.size 36 4) (by have := hb1.size; simp; omega) hg2.grow))
  have hz2 := R2.size
  have Ho2 := hidden ho2
  obtain ⟨g2, cap2, rfl⟩ := own_form ho2
  have HR2 := hidden R2
  clear hb1 ho2 hg2 R2
  go_wp2
  rw [rounds_succ]
  go_wp2
  rw [rounds_succ]
  go_wp2_with (first | (go_at_call 31; refine (parseItem_31 w2).mono ?_; rintro e w3 ⟨rfl, hb3⟩; have hz3 := hb3.size; have Ho3 := hidden (Ho2.out.kept (row := none) (show w2.grownBy w3 none from ⟨hb3.os, hb3.tape, hb3.output, hb3.size, fun k hk _ => hb3.block k hk⟩) (.inr (by simp [Value.ownBlock])))) | (at_builtin; refine app_item _ rfl _ _ rfl w.heap.size 1 _ _ _ _ _ _ _ rfl rfl ((Ho3.out.alloc _).alloc _) (heap_new _ _ _ (by simp)) (one4 _ _ _ _ _ _) (by omega) (by simp; omega) ?_))
  intro v4 w4 ho4 hg4
  have R4 : Below w.heap.size w3 w4 := (((Below.refl _ _).alloc (by omega) _).alloc (by simp; omega) _).trans (own_below ((Ho3.out.alloc _).alloc _) (by simp; omega) hg4.grow)
  have R3 : Below w.heap.size w w3 := HR2.out.trans (hb3.mono hz2)
  obtain ⟨vo, c', rfl, hsl⟩ := own_two (w := w4) ho4 (by omega) (by omega) (by decide) (by omega) (by omega) (by decide)
  have HS := hidden hsl
  have HR := hidden (R3.trans R4)
  clear hsl ho4 hg4 R3 R4 hb3
  go_wp2
  rw [rounds_succ]
  go_wp2
  go_returns
  exact ⟨vo, c', rfl, HS.out, HR.out⟩

set_option maxHeartbeats 400000 in
set_option maxRecDepth 100000 in
theorem parseItem_00 (w : World) : Calls Tryz.prog 31 #[.string ⟨#[91, 49, 32, 91, 93, 93]⟩, .int .i64 0, .int .i64 0] w fun e w' => ∃ vo c, e = .returned (.tuple #[.agg #[.int .i64 7, .int .i64 0, .string ⟨#[]⟩, .slice vo 2 c], .int .i64 6, .int .i64 0]) ∧ SlI w' (w.heap.size ≤ ·) vo 2 c inn ∧ Below w.heap.size w w' := by
  have hq : (((⟨#[91, 49, 32, 91, 93, 93]⟩ : ByteArray)[0].toNat : Int)) = 91 := by decide
  go_enter Tryz.func31, Tryz.ntmps31
  go_wp2_with (first | (go_at_call 21; refine (parseItems_11 _).mono ?_; rintro e w2 ⟨vo, c, rfl, hsl, hb1⟩; obtain ⟨⟨m0, m1, m2, m3⟩, n0, n1, n2, n3⟩ := cells4r hb1; have HB2 : Hid (Below w.heap.size w w2) := (show Below w.heap.size w _ from by go_grown).trans (hb1.mono (by simp)); have HS : Hid (SlI w2 (w.heap.size + 1 ≤ ·) vo 2 c inn) := hsl.lift (by simp); clear hb1 hsl))
  refine bodyPost_ret (v := .tuple #[.agg #[.int .i64 7, .int .i64 0, .string ⟨#[]⟩, .slice vo 2 c], .int .i64 6, .int .i64 0]) (by simp [results, Tryz.results31, go_sem, m0, m1, m2, m3]; try rfl) rfl ?_
  refine ⟨vo, c, rfl, (HS.out.keep (by simp) (fun q hq => ?_)).lift (by omega), (((HB2.out.setCell (by simp) _).setCell (by simp) _).setCell (by simp) _).setCell (by simp) _⟩
  rw [World.cell?_setCell_far _ _ _ _ (by simp; omega), World.cell?_setCell_far _ _ _ _ (by simp; omega), World.cell?_setCell_far _ _ _ _ (by simp; omega), World.cell?_setCell_far _ _ _ _ (by simp; omega)]

set_option maxHeartbeats 400000 in
set_option maxRecDepth 100000 in
theorem parseItems_00 (w : World) : Calls Tryz.prog 21 #[.string ⟨#[91, 49, 32, 91, 93, 93]⟩, .int .i64 0, .int .i64 0] w fun e w' => ∃ vo c, e = .returned (.tuple #[.slice vo 1 c, .int .i64 6, .int .i64 0]) ∧ SlI w' (w.heap.size ≤ ·) vo 1 c out7 ∧ Below w.heap.size w w' := by
  have h0 : (((⟨#[91, 49, 32, 91, 93, 93]⟩ : ByteArray)[0].toNat : Int)) = 91 := by decide
  go_enter Tryz.func21, Tryz.ntmps21
  go_wp2
  refine wp_loop_rounds 3 ?_
  rw [rounds_succ]
  go_wp2_with (first | (go_at_call 31; refine (parseItem_00 w).mono ?_; rintro e w1 ⟨vo, c, rfl, hsl, hb1⟩; have HS := hidden hsl; have hz1 := hb1.size; clear hsl) | (at_builtin; refine app_item _ rfl _ _ rfl w.heap.size 0 [] _ _ _ _ _ _ rfl rfl (World.ownsRow_nil _ _ _ _) (heap_new _ _ _ (by simp)) (one4 _ _ _ _ _ _) (by omega) (by simp; omega) ?_))
  intro v2 w2 ho2 hg2
  have RA : Below w1.heap.size w1 w2 := (show Below w1.heap.size w1 _ from ((Below.refl _ _).alloc (Nat.le_refl _) _).alloc (by simp) _).trans (own_below (World.ownsRow_nil _ w1.heap.size 36 4) (by simp; omega) hg2.grow)
  have R2 : Below w.heap.size w w2 := hb1.trans (RA.mono hz1)
  obtain ⟨v', c', rfl, hsl'⟩ := own_one (w := w2) ho2 (HS.out.on (Nat.le_refl _) RA) (by omega) (by omega) (by decide)
  have HS' := hidden hsl'
  have HR := hidden R2
  clear hsl' R2 RA hb1 ho2 hg2
  go_wp2
  rw [rounds_succ]
  go_wp2
  go_returns
  exact ⟨v', c', rfl, HS'.out, HR.out⟩

set_option maxRecDepth 100000 in
theorem parse_6 (w : World) : Calls Tryz.prog 12 #[.string ⟨#[91, 49, 32, 91, 93, 93]⟩] w fun e w' => ∃ vo c, e = .returned (.tuple #[.slice vo 1 c, .int .i64 0, .int .i64 0]) ∧ SlI w' (w.heap.size ≤ ·) vo 1 c out7 ∧ Below w.heap.size w w' := by
  go_enter Tryz.func12, Tryz.ntmps12
  go_wp2_with (go_at_call 21; refine (parseItems_00 w).mono ?_; rintro e w1 ⟨vo, c, rfl, hsl, hb1⟩; have HS := hidden hsl; clear hsl)
  go_returns
  exact ⟨vo, c, rfl, HS.out, hb1⟩
end Go.Proofs.YtpiijmionafmcaaGreatDoor
