/- tuple.Print of the Int 1 and of Lists. -/
import Derived.Test.YtmfnccffpajfnaaGreatDoorPrt0
namespace Go.Proofs.YtmfnccffpajfnaaGreatDoor
open Go.RowKit

/-- Items as text, behind what stands there; each item behind the first with a blank ahead. -/
def pI : Its → Bool → List Int → List Int
  | .nil, _, b => b
  | .cons k _ _ sub r, more, b => if 65536 < b.length then b else
    pI r true (if k = 3 then (if more then b ++ [32] else b) ++ [49] else pI sub false ((if more then b ++ [32] else b) ++ [91]) ++ [93])
def p1 (k : Int) (sub : Its) (b : List Int) : List Int := if k = 3 then b ++ [49] else pI sub false (b ++ [91]) ++ [93]
set_option maxRecDepth 100000 in
theorem pI_cons (k n : Int) (t : ByteArray) (sub r : Its) (more : Bool) (b : List Int) : pI (.cons k n t sub r) more b = if 65536 < b.length then b else pI r true (p1 k sub (if more then b ++ [32] else b)) := by
  rw [pI]; rfl
/-- The Int 1 and Lists alone. -/
def Its.IL : Its → Prop
  | .nil => True
  | .cons k n _ sub r => (k = 3 ∧ n = 1 ∨ k = 7) ∧ sub.IL ∧ r.IL
set_option maxRecDepth 100000 in
theorem Its.IL.drop : ∀ (l : Its) (i : Nat), l.IL → (l.drop i).IL
  | l, 0, h => by simpa [Its.drop] using h
  | .nil, _ + 1, _ => trivial
  | .cons _ _ _ _ r, i + 1, h => Its.IL.drop r i h.2.2
set_option maxRecDepth 100000 in
theorem pI_length : ∀ (l : Its) (more : Bool) (b : List Int), (pI l more b).length ≤ max b.length 65540 + l.sz
  | .nil, _, b => by rw [pI]; omega
  | .cons k n t sub r, more, b => by
    rw [pI_cons]
    simp only [Its.sz]
    split
    · omega
    · rename_i h
      have hb : (if more then b ++ [32] else b).length ≤ 65537 := by
        split
        · simp; omega
        · omega
      have hr := pI_length r true (p1 k sub (if more then b ++ [32] else b))
      generalize (if more then b ++ [32] else b) = b' at *
      have hs := pI_length sub false (b' ++ [91])
      have he : (p1 k sub b').length ≤ 65540 + sub.sz + 1 := by
        unfold p1
        split
        · simp; omega
        · simp only [List.length_append, List.length_cons, List.length_nil] at hs ⊢; omega
      omega
set_option maxRecDepth 100000 in
theorem pI_wf : ∀ (l : Its) (more : Bool) (b : List Int), Wf b → Wf (pI l more b)
  | .nil, _, b, h => by rw [pI]; exact h
  | .cons k n t sub r, more, b, h => by
    rw [pI_cons]
    split
    · exact h
    · have hb : Wf (if more then b ++ [32] else b) := by
        split
        · exact h.append (Wf.cons (by omega) Wf.nil)
        · exact h
      refine pI_wf r _ _ ?_
      unfold p1
      split
      · exact hb.append (Wf.cons (by omega) Wf.nil)
      · exact (pI_wf sub _ _ (hb.append (Wf.cons (by omega) Wf.nil))).append (Wf.cons (by omega) Wf.nil)

set_option maxRecDepth 100000 in
theorem alloc_old (u : World) (o : Obj) (a : Addr) (h : a.block < u.heap.size) : (u.alloc o).cell? a = u.cell? a := ((Below.refl u.heap.size u).alloc (Nat.le_refl _) o).cell h
set_option maxRecDepth 100000 in
theorem alloc_at (u : World) (x : Value) (ty H : Nat) (hH : u.heap.size = H) : (u.alloc (.cells #[x] ty)).cell? ⟨H, 0, none⟩ = some x := by subst hH; simp
set_option maxRecDepth 100000 in
theorem alloc4 (u : World) (a b c d : Value) (ty : Nat) : (u.alloc (.cells #[a, b, c, d] ty)).cell? ⟨u.heap.size, 3, none⟩ = some d := by simp
set_option maxRecDepth 100000 in
theorem cellsX (w : World) (a b c d x y : Value) (ty t5 : Nat) : (((w.alloc (.cells #[a, b, c, d] ty)).alloc (.cells #[x] t5)).alloc (.cells #[y] t5)).cell? ⟨w.heap.size, 3, none⟩ = some d ∧
    (((w.alloc (.cells #[a, b, c, d] ty)).alloc (.cells #[x] t5)).alloc (.cells #[y] t5)).cell? ⟨w.heap.size + 1, 0, none⟩ = some x ∧ (((w.alloc (.cells #[a, b, c, d] ty)).alloc (.cells #[x] t5)).alloc (.cells #[y] t5)).cell? ⟨w.heap.size + 1 + 1, 0, none⟩ = some y := by
  refine ⟨?_, ?_, alloc_at _ _ _ _ (by simp)⟩
  · rw [alloc_old _ _ _ (by simp; omega), alloc_old _ _ _ (by simp)]
    exact alloc4 _ _ _ _ _ _
  · rw [alloc_old _ _ _ (by simp)]
    exact alloc_at _ _ _ _ (by simp)

/-- What printItems does of items that lie in memory, in whatever world. -/
def PrtIs (l : Its) (so : Option Addr) (m c : Nat) : Prop := ∀ (v : Value) (B : Nat) (b : List Int) (w : World), OwnB w B v b → B ≤ w.heap.size → SlI w (· < B) so m c l → Wf b → b.length ≤ 65538 → l.sz + 1000000 ≤ 140737488355328 →
    Calls Tryz.prog 21 #[v, .slice so m c] w fun e w' => ∃ v', e = .returned v' ∧ OwnB w' B v' (pI l false b) ∧ Gr w v w' v'

set_option maxHeartbeats 1000000 in
set_option maxRecDepth 100000 in
theorem printItem_of (k n : Int) (t : ByteArray) (so : Option Addr) (m c : Nat) (sub : Its) (v : Value) (B : Nat) (b : List Int) (w : World) (hw : OwnB w B v b) (hB : B ≤ w.heap.size) (hs : SlI w (· < B) so m c sub)
    (hb : Wf b) (hb0 : b.length ≤ 65537) (hl : sub.sz + 1000000 ≤ 140737488355328) (hk : k = 3 ∧ n = 1 ∨ k = 7) (hsub : PrtIs sub so m c) :
    Calls Tryz.prog 33 #[v, .agg #[.int .i64 k, .int .i64 n, .string t, .slice so m c]] w fun e w' => ∃ v', e = .returned v' ∧ OwnB w' B v' (p1 k sub b) ∧ Gr w v w' v' := by
  have Hw := hidden hw
  have Hs := hidden hs
  have Hsub := hidden hsub
  have hpl := pI_length sub false (b ++ [91])
  have hb1 : (b ++ [91]).length = b.length + 1 := by simp
  rw [hb1] at hpl
  have b0 : ∀ o, Below B w (w.alloc o) := fun o => (Below.refl _ _).alloc hB o
  have hne : ∀ k', v.ownBlock = some k' → k' < w.heap.size := fun k' hk' => (World.ownsRow.lt (show w.ownsRow B 5 1 _ _ _ from hw) k' hk').2
  have Hne := hidden hne
  clear hw hs hsub hne
  rcases hk with ⟨rfl, rfl⟩ | rfl
  · go_enter Tryz.func33, Tryz.ntmps33
    go_wp2_with (go_at_call 47; refine (appInt_1 v B b _ (Hw.out.alloc _) (by simp; omega) (by omega)).mono ?_; rintro e w1 ⟨v1, rfl, ho1, hg1⟩)
    go_ret
    exact ⟨_, rfl, by simpa [p1] using ho1, (Gr.alloc _ _ _).trans hg1⟩
  · have e0 : p1 7 sub b = pI sub false (b ++ [91]) ++ [93] := by unfold p1; rw [if_neg (by decide)]
    rw [e0]
    go_enter Tryz.func33, Tryz.ntmps33
    go_wp2_with fail
    go_region_held3 (fun w' => w'.cell? ⟨w.heap.size, 3, none⟩ = some (.slice so m c))
      (first | exact s4 | exact s3 | exact s2 | go_keep)
      (first | (refine step_app1 (by rfl) _ _ (by rfl) B b 91 _ _ (by rfl) (by rfl) (Hw.out.on (Nat.le_refl _) (by go_grown)) (by first | exact (cellsX _ _ _ _ _ _ _ _ _).2.1 | exact (cellsX _ _ _ _ _ _ _ _ _).2.2 | (simp; done)) (by omega) (by simp; omega) ?_; intro v2 w2 ho2 hg2; have G2 : Gr w v w2 v2 := (Gr.ofBelow _ (show Below w.heap.size w _ from by go_grown)).trans hg2; have R2 : Below B w w2 := G2.below Hw.out hB; have hB2 : B ≤ w2.heap.size := (by have := R2.size; omega); have hz2 : w.heap.size + 2 ≤ w2.heap.size := (by have := hg2.grow.size; simp at this; omega); have hv2 : some w.heap.size ≠ v2.ownBlock := hg2.ne (by simp; omega) (fun k' h => Nat.ne_of_lt (Hne.out _ h)); have s2 : w2.cell? ⟨w.heap.size, 3, none⟩ = some (.slice so m c) := (hg2.cell _ (by simp; omega) (fun h => absurd (Hne.out _ h.symm) (Nat.lt_irrefl _))).trans (by first | exact (cellsX _ _ _ _ _ _ _ _ _).1 | (simp; done)); have hvB : some w2.heap.size ≠ v2.ownBlock := (fun h => absurd (World.ownsRow.lt (show w2.ownsRow B 5 1 _ _ _ from ho2) _ h.symm).2 (Nat.lt_irrefl _))) | (go_at_call 21; refine (Hsub.out v2 B (b ++ [91]) _ (ho2.on (Nat.le_refl _) (by go_grown)) (by first | omega | (simp; omega)) ((Hs.out.onB R2).on (Nat.le_refl _) (by go_grown)) (hb.append (Wf.cons (by omega) Wf.nil)) (by simp; omega) hl).mono ?_; rintro e w3 ⟨v3, rfl, ho3, hg3⟩; have G3 : Gr w2 v2 w3 v3 := (Gr.ofBelow _ (show Below w2.heap.size w2 _ from by go_grown)).trans hg3; have hz3 : w2.heap.size ≤ w3.heap.size := G3.grow.size; have s3 : w3.cell? ⟨w.heap.size, 3, none⟩ = some (.slice so m c) := (G3.cell _ (Nat.lt_of_lt_of_le (Nat.lt_add_of_pos_right (by decide)) hz2) hv2).trans s2) | (refine step_app1 (by rfl) _ _ (by rfl) B (pI sub false (b ++ [91])) 93 _ _ (by rfl) (by rfl) (ho3.on (Nat.le_refl _) (by go_grown)) (by first | exact alloc_at _ _ _ _ rfl | exact (hg3.cell ⟨w2.heap.size, 0, none⟩ (by simp) hvB).trans (alloc_at _ _ _ _ rfl) | exact (hg3.cell ⟨w.heap.size + 1, 0, none⟩ (by first | (show w.heap.size + 1 < w2.heap.size; have := hg2.grow.size; simp at this; omega)) (hg2.ne (k := w.heap.size + 1) (by first | (simp; done) | (simp; omega)) (fun k' h => by have := Hne.out k' h; omega))).trans ((hg2.cell ⟨w.heap.size + 1, 0, none⟩ (by first | (simp; done) | (simp; omega)) (fun h => absurd (Hne.out (w.heap.size + 1) h.symm) (by omega))).trans (cellsX _ _ _ _ _ _ _ _ _).2.1) | exact (hg3.cell ⟨w.heap.size + 1 + 1, 0, none⟩ (by first | (show w.heap.size + 1 + 1 < w2.heap.size; have := hg2.grow.size; simp at this; omega)) (hg2.ne (k := w.heap.size + 1 + 1) (by first | (simp; done) | (simp; omega)) (fun k' h => by have := Hne.out k' h; omega))).trans ((hg2.cell ⟨w.heap.size + 1 + 1, 0, none⟩ (by first | (simp; done) | (simp; omega)) (fun h => absurd (Hne.out (w.heap.size + 1 + 1) h.symm) (by omega))).trans (cellsX _ _ _ _ _ _ _ _ _).2.2)) (by omega) (by first | omega | (simp; omega)) ?_; intro v4 w4 ho4 hg4; have G4 : Gr w3 v3 w4 v4 := (Gr.ofBelow _ (show Below w3.heap.size w3 _ from by go_grown)).trans hg4; have hv3 : some w.heap.size ≠ v3.ownBlock := G3.ne (by omega) (fun k' h e => hv2 (by rw [h, e])); have s4 : w4.cell? ⟨w.heap.size, 3, none⟩ = some (.slice so m c) := (G4.cell _ (show w.heap.size < w3.heap.size by omega) hv3).trans s3))
    all_goals go_wp2
    all_goals go_ret
    all_goals exact ⟨_, rfl, ho4, G2.trans (G3.trans G4)⟩
end Go.Proofs.YtmfnccffpajfnaaGreatDoor
