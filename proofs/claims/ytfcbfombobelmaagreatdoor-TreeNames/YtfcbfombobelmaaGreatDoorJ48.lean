/- Layer 12: the chapter's first examples: awake answers true. -/
import Derived.Test.YtfcbfombobelmaaGreatDoorJ47
import Derived.Test.YtfcbfombobelmaaGreatDoorJ28
namespace Go.Proofs.YtfcbfombobelmaaGreatDoor
open Go.RowKit

/-- The cells a = 1 and a = 2. -/
def tA : Cl := ⟨[97], 1, [49], 0, 0⟩
def tB : Cl := ⟨[97], 1, [50], 0, 0⟩
set_option maxRecDepth 100000 in
theorem tA_may : mayP 2 512 tA := by decide
set_option maxRecDepth 100000 in
theorem tB_may : mayP 2 512 tB := by decide
set_option maxRecDepth 100000 in
theorem tA_wf : tA.Wf := ⟨Wf.cons (by omega) Wf.nil, Wf.cons (by omega) Wf.nil⟩
set_option maxRecDepth 100000 in
theorem tB_wf : tB.Wf := ⟨Wf.cons (by omega) Wf.nil, Wf.cons (by omega) Wf.nil⟩
set_option maxRecDepth 100000 in
theorem tA_gd : Gd1 [tA] := ⟨fun c hc => by simp at hc; subst hc; exact tA_wf, fun c hc => by simp at hc; subst hc; exact tA_may.fit (by omega), by decide, by decide⟩
set_option maxRecDepth 100000 in
theorem tB_gd : Gd1 [tB] := ⟨fun c hc => by simp at hc; subst hc; exact tB_wf, fun c hc => by simp at hc; subst hc; exact tB_may.fit (by omega), by decide, by decide⟩
set_option maxRecDepth 100000 in
theorem C5.cfB {u v : World} {g : Nat} {x0 x1 x2 x3 x4 : Value} {F : Nat → Prop} (h : C5 u g x0 x1 x2 x3 x4) (hc : Cf F u v) (hg : ¬ F g) : C5 v g x0 x1 x2 x3 x4 := (hc.block g (lt_some h) hg).trans h
set_option maxRecDepth 100000 in
theorem tkL_none (M : Int → Option Pf) (h : ∀ k, M k = none) : ∀ j, tkL M j = []
  | 0 => rfl
  | j + 1 => by
    unfold tkL
    rw [tkL_none M h j, h]
    rfl
/-- One page, and it alone. -/
def oneM (f : Pf) : Int → Option Pf := putM (fun _ => none) 2 f
set_option maxRecDepth 100000 in
theorem oneM_at (f : Pf) : oneM f 2 = some f := by simp [oneM, putM]
set_option maxRecDepth 100000 in
theorem oneM_len {f : Pf} {cs : List Cl} (gd : Gd1 cs) (hf : f.l = pgB 2 512 cs) : ∀ k f', oneM f k = some f' → 0 < f'.l.length := fun k f' hk => by
  unfold oneM putM at hk
  split at hk
  · injection hk with hk
    subst hk
    rw [hf, gd.len]
    omega
  · cases hk
set_option maxRecDepth 100000 in
theorem oneM_put (f f' : Pf) : putM (oneM f) 2 f' = oneM f' := putM_twice _ 2 f f'
set_option maxRecDepth 100000 in
theorem oneM_del (f : Pf) : ∀ k, delM (oneM f) 2 k = none := fun k => by
  unfold delM oneM putM
  by_cases h : k = 2
  · rw [if_pos h]
  · rw [if_neg h, if_neg h]
set_option maxRecDepth 100000 in
theorem wf2 : (Lit.int .i64 2).wf = true := wf64 2 (by omega) (by omega)
/-- A cell that came out, in a block of its own, and its value. -/
def Kp (u : World) (g : Nat) (vo : Option Addr) (vc : Nat) (l : List Int) (B : Nat) : Prop := (∃ (ko : Option Addr) (kn kc : Nat) (kd pg ct : Int), C5 u g (.slice ko kn kc) (.int .i64 kd) (.slice vo 1 vc) (.int .i64 pg) (.int .i64 ct)) ∧ Sl u vo 1 vc l ∧ (∀ q, vo = some q → B ≤ q.block) ∧ B ≤ g
set_option maxRecDepth 100000 in
theorem Kp.cf {u v : World} {g : Nat} {vo : Option Addr} {vc : Nat} {l : List Int} {B : Nat} {F : Nat → Prop} (h : Kp u g vo vc l B) (hc : Cf F u v) (hF : ∀ k, B ≤ k → ¬ F k) : Kp v g vo vc l B := by
  obtain ⟨⟨ko, kn, kc, kd, pg, ct, h1⟩, h2, h3, h4⟩ := h
  exact ⟨⟨ko, kn, kc, kd, pg, ct, h1.cfB hc (hF g h4)⟩, h2.cf hc (.inr fun q hq => hF _ (h3 q hq)), h3, h4⟩
set_option maxRecDepth 100000 in
theorem Kp.on {u v : World} {g : Nat} {vo : Option Addr} {vc : Nat} {l : List Int} {B : Nat} (h : Kp u g vo vc l B) (hb : Below u.heap.size u v) : Kp v g vo vc l B := h.cf (F := fun _ => False) (Cf.of_below hb) (fun _ _ h => h)
set_option maxRecDepth 100000 in
theorem Kp.cell2 {u : World} {g : Nat} {vo : Option Addr} {vc : Nat} {l : List Int} {B : Nat} (h : Kp u g vo vc l B) : u.cell? ⟨g, 2, none⟩ = some (.slice vo 1 vc) := by
  obtain ⟨⟨ko, kn, kc, kd, pg, ct, h1⟩, _⟩ := h
  exact h1.cells.2.2.1
set_option maxRecDepth 100000 in
theorem Kp.conv1 {u : World} {g : Nat} {vo : Option Addr} {vc : Nat} {B : Nat} (h : Kp u g vo vc [49] B) : (convert 27 9 (.slice vo 1 vc)).run Tryz.prog u = .ok (.string ⟨#[49]⟩) u := conv_sl h.2.1
set_option maxRecDepth 100000 in
theorem Kp.conv2 {u : World} {g : Nat} {vo : Option Addr} {vc : Nat} {B : Nat} (h : Kp u g vo vc [50] B) : (convert 27 9 (.slice vo 1 vc)).run Tryz.prog u = .ok (.string ⟨#[50]⟩) u := conv_sl h.2.1
set_option maxRecDepth 100000 in
set_option maxHeartbeats 8000000 in
theorem awake12_any (w : World) (ht : Tab w) (h0 : 1 < w.heap.size) : Calls Tryz.prog 5 #[] w fun e w' => e = .returned (.bool true) ∧ Below w.heap.size w w' := by
  have HNB := hidden (newBench_yes w 1 512 40 (.inl rfl) pw512 (by omega) (by omega))
  have HT := hidden (And.intro ht h0)
  clear ht h0
  go_enter Tryz.func5, Tryz.ntmps5
  go_wp2_with (first | (go_at_call 8; refine HNB.out.mono ?_; rintro e w1 ⟨b, m, rfl, HQ1⟩; refine Hid.out ?_))
  apply hidden
  clear HNB
  obtain ⟨s, hs⟩ : ∃ s, w1.heap.size = s := ⟨_, rfl⟩
  have k1 := conv6H w1 #[.int .u8 97] 1 1 s hs
  have k2 := fun X => conv6H (w1.alloc X) #[.int .u8 49] 1 1 (s + 1) (by rw [← hs]; simp)
  go_upto_region 3 with fail
  obtain ⟨x, hx⟩ : ∃ x, (((w1.alloc (.cells #[.int .u8 97] 5 (1, 2))).alloc (.cells #[.int .u8 49] 5 (1, 2))).alloc (.cells #[.slice (some ⟨s, 0, none⟩) 1 1, .int .i64 1, .slice (some ⟨s + 1, 0, none⟩) 1 1, .int .i64 0, .int .i64 0] 29)) = x := ⟨_, rfl⟩
  have HX : Hid (Below w1.heap.size w1 x ∧ x.heap.size = s + 3 ∧ Sl x (some ⟨s, 0, none⟩) 1 1 [97] ∧ Sl x (some ⟨s + 1, 0, none⟩) 1 1 [49] ∧ C5 x (s + 2) (.slice (some ⟨s, 0, none⟩) 1 1) (.int .i64 1) (.slice (some ⟨s + 1, 0, none⟩) 1 1) (.int .i64 0) (.int .i64 0)) := by
    have z1 : (w1.alloc (.cells #[.int .u8 97] 5 (1, 2))).heap.size = s + 1 := by rw [← hs]; simp
    have z2 : ((w1.alloc (.cells #[.int .u8 97] 5 (1, 2))).alloc (.cells #[.int .u8 49] 5 (1, 2))).heap.size = s + 2 := by rw [← hs]; simp
    have e0 : x.heap[s]? = some (.cells (By [97]).toArray 5 (1, 2)) := by
      rw [← hx]
      refine (Below.heap_alloc _ _ _ (by rw [z2]; omega)).trans ((Below.heap_alloc _ _ _ (by rw [z1]; omega)).trans ?_)
      rw [← hs]
      exact heap_alloc_last w1 _
    have e1 : x.heap[s + 1]? = some (.cells (By [49]).toArray 5 (1, 2)) := by
      rw [← hx]
      refine (Below.heap_alloc _ _ _ (by rw [z2]; omega)).trans ?_
      have := heap_alloc_last (w1.alloc (.cells #[.int .u8 97] 5 (1, 2))) (.cells #[.int .u8 49] 5 (1, 2))
      rw [z1] at this
      exact this
    have e2 : C5 x (s + 2) (.slice (some ⟨s, 0, none⟩) 1 1) (.int .i64 1) (.slice (some ⟨s + 1, 0, none⟩) 1 1) (.int .i64 0) (.int .i64 0) := by
      rw [← hx]
      have := heap_alloc_last ((w1.alloc (.cells #[.int .u8 97] 5 (1, 2))).alloc (.cells #[.int .u8 49] 5 (1, 2))) (.cells #[.slice (some ⟨s, 0, none⟩) 1 1, .int .i64 1, .slice (some ⟨s + 1, 0, none⟩) 1 1, .int .i64 0, .int .i64 0] 29)
      rw [z2] at this
      exact this
    refine hidden ⟨?_, by rw [← hx, ← hs]; simp, sl_lit x [97] 1 (1, 2) s e0 rfl (Wf.cons (by omega) Wf.nil) (by omega), sl_lit x [49] 1 (1, 2) (s + 1) e1 rfl (Wf.cons (by omega) Wf.nil) (by omega), e2⟩
    rw [← hx]
    exact bl_al (bl_al (bl_al (Below.refl _ _) (Nat.le_refl _) _) (Nat.le_refl _) _) (Nat.le_refl _) _
  have HN : Hid (w.heap.size ≤ b ∧ w.heap.size ≤ m ∧ b < s ∧ m < s ∧ w.heap.size ≤ s) := hidden (by
    obtain ⟨q1, q2, q3, q4⟩ := HQ1.out
    have := q3.lt
    have := q3.mlt
    have := q4.size
    exact ⟨q1, q2, by omega, by omega, by omega⟩)
  have HTB : Hid (TB x b m) := hidden fun u hu => by
    have hn := HN.out
    obtain ⟨q1, q2, q3, q4⟩ := HQ1.out
    have h1 : Below w.heap.size w x := bl_go q4 (Nat.le_refl _) HX.out.1
    have h2 : Below w.heap.size w u := h1.trans (hu.below h1.size (fun k hk => by rintro (e | e) <;> omega))
    exact ⟨HT.out.1.on h2 HT.out.2, Nat.lt_of_lt_of_le HT.out.2 h2.size⟩
  have HWX : Hid (Below w.heap.size w x) := hidden (bl_go HQ1.out.2.2.2 (Nat.le_refl _) HX.out.1)
  have HP1 : Hid (Calls Tryz.prog 9 #[iB b, .int .i64 0, .agg #[.slice (some ⟨s, 0, none⟩) 1 1, .int .i64 1, .slice (some ⟨s + 1, 0, none⟩) 1 1, .int .i64 0, .int .i64 0]] x fun e w' => ∃ ko kn kc kd vo vn vc pg ct', e = .returned (.tuple #[.int .i64 2, .agg #[.slice ko kn kc, .int .i64 kd, .slice vo vn vc, .int .i64 pg, .int .i64 ct'], .bool false, .int .i64 0]) ∧ Hid (Cf (Bo b m) x w' ∧ ∃ f : Pf, f.l = pgB 2 512 [tA] ∧ x.heap.size ≤ f.g ∧ Bq w' b m 0 (oneM f) 1)) := hidden (by
    have hn := HN.out
    obtain ⟨x1, x2, x3, x4, x5⟩ := HX.out
    exact Put_0 x b m 0 (fun _ => none) 0 (HQ1.out.2.2.1.on x1) HTB.out [97] [49] (some ⟨s, 0, none⟩) (some ⟨s + 1, 0, none⟩) 1 1 (KS.of x3 (fun q hq => by injection hq with hq; subst hq; exact ⟨by simp only; omega, by simp only; omega⟩)) (KS.of x4 (fun q hq => by injection hq with hq; subst hq; exact ⟨by simp only; omega, by simp only; omega⟩)) (by decide) (by decide) (by decide) tA_gd tA_may rfl (fun k f h => by cases h) (by omega))
  obtain ⟨c0, c1, c2, c3, c4⟩ := HX.out.2.2.2.2.cells
  rw [hx]
  clear k1 k2 hx
  go_wp2_with (first | (go_at_call 9; refine HP1.out.mono ?_; rintro e w2 ⟨ko, kn, kc, kd, vo, vn, vc, pg, ct', rfl, HQ2⟩; refine Hid.out ?_))
  apply hidden
  clear c0 c1 c2 c3 c4 HP1
  obtain ⟨t, ht⟩ : ∃ t, w2.heap.size = t := ⟨_, rfl⟩
  have k1 := fun X => conv6H (w2.alloc X) #[.int .u8 50] 1 1 (t + 1) (by rw [← ht]; simp)
  have HC2 : Hid (C5 w2 (s + 2) (.slice (some ⟨s, 0, none⟩) 1 1) (.int .i64 1) (.slice (some ⟨s + 1, 0, none⟩) 1 1) (.int .i64 0) (.int .i64 0)) := hidden (HX.out.2.2.2.2.cfB HQ2.out.1 (by have := HN.out; rintro (e | e) <;> omega))
  have HAA : Hid (∀ o o', C5 ((w2.alloc o).alloc o') (s + 2) (.slice (some ⟨s, 0, none⟩) 1 1) (.int .i64 1) (.slice (some ⟨s + 1, 0, none⟩) 1 1) (.int .i64 0) (.int .i64 0)) := hidden fun o o' => box_on HC2.out (bl_al (bl_al (Below.refl _ _) (Nat.le_refl _) _) (Nat.le_refl _) _)
  have c2 := fun o o' => (HAA.out o o').cells.2.2.1
  have f2 : ∀ o o', ((w2.alloc o).alloc o').frozen? ⟨s + 2, 2, none⟩ = false := fun o o' => by have h := HAA.out o o'; unfold C5 at h; simp [World.frozen?, h]
  go_upto_region 5 with fail
  obtain ⟨v, hv⟩ : ∃ v, (w2.alloc (.cells #[.slice ko kn kc, .int .i64 kd, .slice vo vn vc, .int .i64 pg, .int .i64 ct'] 29)).alloc (.cells #[.int .u8 50] 5 (1, 2)) = v := ⟨_, rfl⟩
  obtain ⟨y, hy⟩ : ∃ y, v.setCell ⟨s + 1 + 1, 2, none⟩ (.slice (some ⟨t + 1, 0, none⟩) 1 1) = y := ⟨_, rfl⟩
  have HST : Hid (∀ u u', Below w.heap.size w u → Cf (Bo b m) u u' → Below w.heap.size w u') := hidden fun u u' h1 h2 => h1.trans (h2.below h1.size (fun k hk => by have := HN.out; rintro (e | e) <;> omega))
  have HTW : Hid (∀ u, Below w.heap.size w u → TB u b m) := hidden fun u h1 u' h2 => by
    have h3 := HST.out u u' h1 h2
    exact ⟨HT.out.1.on h3 HT.out.2, Nat.lt_of_lt_of_le HT.out.2 h3.size⟩
  have HBV : Hid (Below w2.heap.size w2 v) := hidden (by rw [← hv]; exact bl_al (bl_al (Below.refl _ _) (Nat.le_refl _) _) (Nat.le_refl _) _)
  have HCY : Hid (Cf (· = s + 2) v y) := hidden (by rw [← hy]; exact Cf.set _ _ _ _)
  have HXT : Hid (s + 3 ≤ t ∧ x.heap.size = s + 3) := hidden (by
    have h1 := HQ2.out.1.size
    have h2 := HX.out.2.1
    exact ⟨by omega, h2⟩)
  have HWY : Hid (Below w.heap.size w y) := hidden (by
    have h1 := HST.out x w2 HWX.out HQ2.out.1
    have h2 : Below w.heap.size w v := bl_go h1 (Nat.le_refl _) HBV.out
    exact h2.trans (HCY.out.below h2.size (fun k hk e => by have := HN.out; omega)))
  have HY : Hid (Sl y (some ⟨s, 0, none⟩) 1 1 [97] ∧ Sl y (some ⟨t + 1, 0, none⟩) 1 1 [50] ∧ C5 y (s + 2) (.slice (some ⟨s, 0, none⟩) 1 1) (.int .i64 1) (.slice (some ⟨t + 1, 0, none⟩) 1 1) (.int .i64 0) (.int .i64 0)) := hidden (by
    have hn := HN.out
    have hxt := HXT.out
    have a1 : Sl w2 (some ⟨s, 0, none⟩) 1 1 [97] := HX.out.2.2.1.cf HQ2.out.1 (.inr fun q hq => by injection hq with hq; subst hq; rintro (e | e) <;> simp only at e <;> omega)
    have a2 : Sl v (some ⟨t + 1, 0, none⟩) 1 1 [50] := by
      refine sl_lit v [50] 1 (1, 2) (t + 1) ?_ rfl (Wf.cons (by omega) Wf.nil) (by omega)
      rw [← hv, ← ht]
      have := heap_alloc_last (w2.alloc (.cells #[.slice ko kn kc, .int .i64 kd, .slice vo vn vc, .int .i64 pg, .int .i64 ct'] 29)) (.cells #[.int .u8 50] 5 (1, 2))
      simp only [World.size_alloc] at this
      exact this
    refine ⟨(a1.on (Nat.le_refl _) HBV.out).cf HCY.out (.inr fun q hq e => by injection hq with hq; subst hq; simp only at e; omega), a2.cf HCY.out (.inr fun q hq e => by injection hq with hq; subst hq; simp only at e; omega), ?_⟩
    have h := box_on HC2.out HBV.out
    unfold C5
    rw [← hy]
    simpa using set_row (w := v) (a := s + 2) (i := 2) (cs := [.slice (some ⟨s, 0, none⟩) 1 1, .int .i64 1, .slice (some ⟨s + 1, 0, none⟩) 1 1, .int .i64 0, .int .i64 0]) (u := .slice (some ⟨t + 1, 0, none⟩) 1 1) h)
  have HQY : Hid (∃ f : Pf, f.l = pgB 2 512 [tA] ∧ Bq y b m 0 (oneM f) 1) := hidden (by
    obtain ⟨q1, f, q2, q3, q4⟩ := HQ2.out
    have hn := HN.out
    have hxt := HXT.out
    refine ⟨f, q2, (q4.on HBV.out).cf HCY.out (by omega) (by omega) (fun k f' hk e => ?_)⟩
    unfold oneM putM at hk
    split at hk
    · injection hk with hk
      subst hk
      omega
    · cases hk)
  have HP2 : Hid (Calls Tryz.prog 9 #[iB b, .int .i64 2, .agg #[.slice (some ⟨s, 0, none⟩) 1 1, .int .i64 1, .slice (some ⟨t + 1, 0, none⟩) 1 1, .int .i64 0, .int .i64 0]] y fun e w' => ∃ ko kn kc kd vo vc pg ct', e = .returned (.tuple #[.int .i64 2, .agg #[.slice ko kn kc, .int .i64 kd, .slice vo 1 vc, .int .i64 pg, .int .i64 ct'], .bool true, .int .i64 0]) ∧ Hid (Cf (Bo b m) y w' ∧ VL w' vo 1 vc [49] y.heap.size ∧ ∃ f : Pf, f.l = pgB 2 512 [tB] ∧ Bq w' b m (0 + 1 + 1) (oneM f) 1)) := hidden (by
    have hn := HN.out
    have hxt := HXT.out
    obtain ⟨f, q2, q4⟩ := HQY.out
    obtain ⟨x1, x2, x3⟩ := HY.out
    refine (Put_1 y b m 0 2 (oneM f) 1 q4 (HTW.out y HWY.out) f tA (oneM_at f) q2 tA_gd wf2 (by omega) (by omega) (by omega) [97] [50] (some ⟨s, 0, none⟩) (some ⟨t + 1, 0, none⟩) 1 1 (KS.of x1 (fun q hq => by injection hq with hq; subst hq; exact ⟨by simp only; omega, by simp only; omega⟩)) (KS.of x2 (fun q hq => by injection hq with hq; subst hq; exact ⟨by simp only; omega, by simp only; omega⟩)) (by decide) (by decide) (by decide) rfl (by decide) tB_gd tB_may (oneM_len tA_gd q2) (by omega)).mono ?_
    rintro e w' ⟨ko, kn, kc, kd, vo, vc, pg, ct', rfl, HQ⟩
    obtain ⟨r1, r2, f', r3, r4, r5⟩ := HQ.out
    rw [oneM_put] at r5
    exact ⟨ko, kn, kc, kd, vo, vc, pg, ct', rfl, hidden ⟨r1, r2, f', r3, r5⟩⟩)
  have HYN : Hid (s + 2 < y.heap.size) := hidden (lt_some HY.out.2.2)
  obtain ⟨c0, c1, c2', c3, c4⟩ := HY.out.2.2.cells
  rw [hv, hy]
  clear k1 hv hy c2 f2 HAA HC2 HBV HCY HX HQ1 HQ2 HXT ht
  go_wp2_with (first | (go_at_call 9; refine HP2.out.mono ?_; rintro e w3 ⟨ko3, kn3, kc3, kd3, vo3, vc3, pg3, ct3, rfl, HQ3⟩; refine Hid.out ?_))
  apply hidden
  clear c0 c1 c2' c3 c4 HP2
  obtain ⟨t3, ht3⟩ : ∃ t, w3.heap.size = t := ⟨_, rfl⟩
  have k1 := fun X => conv6H (w3.alloc X) #[.int .u8 97] 1 1 (t3 + 1) (by rw [← ht3]; simp)
  have HL3 : Hid (Below w.heap.size w w3 ∧ s + 2 < t3 ∧ w3.heap.size = t3) := hidden ⟨HST.out y w3 HWY.out HQ3.out.1, by have := HQ3.out.1.size; have := HYN.out; omega, ht3⟩
  have HG1 : Hid (∀ z, z = (w3.alloc (.cells #[.slice ko3 kn3 kc3, .int .i64 kd3, .slice vo3 1 vc3, .int .i64 pg3, .int .i64 ct3] 29)).alloc (.cells #[.int .u8 97] 5 (1, 2)) → Calls Tryz.prog 10 #[iB b, .int .i64 2, .slice (some ⟨t3 + 1, 0, none⟩) 1 1] z fun e w' => ∃ ko kn kc kd vo vc pg ct', e = .returned (.tuple #[.agg #[.slice ko kn kc, .int .i64 kd, .slice vo 1 vc, .int .i64 pg, .int .i64 ct'], .bool true, .int .i64 0]) ∧ Hid (Cf (Bo b m) z w' ∧ VL w' vo 1 vc [50] s ∧ Kp w' t3 vo3 vc3 [49] s ∧ Below w.heap.size w w' ∧ ∃ f : Pf, f.l = pgB 2 512 [tB] ∧ Bq w' b m (0 + 1 + 1 + 1) (oneM f) 1)) := hidden fun z hz => by
    have hn := HN.out
    have hl := HL3.out
    have hyn := HYN.out
    obtain ⟨q1, q2, f, q3, q4⟩ := HQ3.out
    have hbz : Below w3.heap.size w3 z := by rw [hz]; exact bl_al (bl_al (Below.refl _ _) (Nat.le_refl _) _) (Nat.le_refl _) _
    have hwz : Below w.heap.size w z := bl_go hl.1 (Nat.le_refl _) hbz
    have a2 : Sl z (some ⟨t3 + 1, 0, none⟩) 1 1 [97] := by
      refine sl_lit z [97] 1 (1, 2) (t3 + 1) ?_ rfl (Wf.cons (by omega) Wf.nil) (by omega)
      rw [hz, ← hl.2.2]
      have := heap_alloc_last (w3.alloc (.cells #[.slice ko3 kn3 kc3, .int .i64 kd3, .slice vo3 1 vc3, .int .i64 pg3, .int .i64 ct3] 29)) (.cells #[.int .u8 97] 5 (1, 2))
      simp only [World.size_alloc] at this
      exact this
    have a3 : Kp z t3 vo3 vc3 [49] s := ⟨⟨ko3, kn3, kc3, kd3, pg3, ct3, by
      rw [hz, ← hl.2.2]
      exact box_on (C5.box w3 _ _ _ _ _) (bl_al (Below.refl _ _) (Nat.le_refl _) _)⟩, q2.1.on (Nat.le_refl _) hbz, fun q hq => by have := q2.2 q hq; omega, by omega⟩
    refine (Get_1 z b m (0 + 1 + 1) 2 (oneM f) 1 (q4.on hbz) (HTW.out z hwz) f tB (oneM_at f) q3 tB_gd wf2 (by omega) (by omega) (by omega) [97] (some ⟨t3 + 1, 0, none⟩) 1 (KS.of a2 (fun q hq => by injection hq with hq; subst hq; exact ⟨by simp only; omega, by simp only; omega⟩)) (by decide) rfl (by decide) (oneM_len tB_gd q3)).mono ?_
    rintro e w' ⟨ko, kn, kc, kd, vo, vc, pg, ct', rfl, HQ⟩
    obtain ⟨r1, r2, r3⟩ := HQ.out
    have hzs := hbz.size
    exact ⟨ko, kn, kc, kd, vo, vc, pg, ct', rfl, hidden ⟨r1, ⟨r2.1, fun q hq => by have := r2.2 q hq; omega⟩, a3.cf r1 (fun k hk => by rintro (e | e) <;> omega), HST.out z w' hwz r1, f, q3, r3⟩⟩
  go_wp2_with (first | (go_at_call 10; refine (HG1.out _ rfl).mono ?_; rintro e w4 ⟨ko4, kn4, kc4, kd4, vo4, vc4, pg4, ct4, rfl, HQ4⟩; refine Hid.out ?_))
  apply hidden
  obtain ⟨t4, ht4⟩ : ∃ t, w4.heap.size = t := ⟨_, rfl⟩
  have HL4 : Hid (w4.heap.size = t4) := hidden ht4
  have HLN : Hid (∀ z, z = w4.alloc (.cells #[.slice ko4 kn4 kc4, .int .i64 kd4, .slice vo4 1 vc4, .int .i64 pg4, .int .i64 ct4] 29) → Calls Tryz.prog 11 #[iB b, .int .i64 2] z fun e w' => e = .returned (.tuple #[.int .i64 1, .int .i64 0]) ∧ Hid (Kp w' t3 vo3 vc3 [49] s ∧ Kp w' t4 vo4 vc4 [50] s ∧ Below w.heap.size w w' ∧ ∃ f : Pf, f.l = pgB 2 512 [tB] ∧ Bq w' b m (0 + 1 + 1 + 1 + 1) (oneM f) 1)) := hidden fun z hz => by
    have hn := HN.out
    obtain ⟨q1, q2, q3, q4, f, q5, q6⟩ := HQ4.out
    have hbz : Below w4.heap.size w4 z := by rw [hz]; exact bl_al (Below.refl _ _) (Nat.le_refl _) _
    have hwz : Below w.heap.size w z := bl_go q4 (Nat.le_refl _) hbz
    have hst : s ≤ t4 := by
      have h3 := q1.size
      have h4 := HL3.out
      simp only [World.size_alloc] at h3
      have := HL4.out
      omega
    have a4 : Kp z t4 vo4 vc4 [50] s := ⟨⟨ko4, kn4, kc4, kd4, pg4, ct4, by rw [hz, ← HL4.out]; exact C5.box w4 _ _ _ _ _⟩, q2.1.on (Nat.le_refl _) hbz, q2.2, hst⟩
    refine (Len_1 z b m (0 + 1 + 1 + 1) 2 (oneM f) 1 (q6.on hbz) (HTW.out z hwz) f tB (oneM_at f) q5 tB_gd wf2 (by omega) (by omega) (by omega) (Bq.lts (q6.on hbz) (oneM_len tB_gd q5))).mono ?_
    rintro e w' ⟨rfl, HQ⟩
    obtain ⟨r1, r2⟩ := HQ.out
    exact ⟨rfl, hidden ⟨(q3.on hbz).cf r1 (fun k hk => by rintro (e | e) <;> omega), a4.cf r1 (fun k hk => by rintro (e | e) <;> omega), HST.out z w' hwz r1, f, q5, r2⟩⟩
  clear HG1 k1 ht3
  go_wp2_with (first | (go_at_call 11; refine (HLN.out _ rfl).mono ?_; rintro e w5 ⟨rfl, HQ5⟩; refine Hid.out ?_))
  apply hidden
  obtain ⟨t5, ht5⟩ : ∃ t, w5.heap.size = t := ⟨_, rfl⟩
  have HL5 : Hid (w5.heap.size = t5 ∧ s ≤ t5) := hidden ⟨ht5, by
    have h := HQ5.out.1.2.2.2
    obtain ⟨⟨_, _, _, _, _, _, h1⟩, _⟩ := HQ5.out.1
    have := lt_some h1
    omega⟩
  have k1 := conv6H w5 #[.int .u8 97] 1 1 t5 ht5
  have HDL : Hid (∀ z, z = w5.alloc (.cells #[.int .u8 97] 5 (1, 2)) → Calls Tryz.prog 12 #[iB b, .int .i64 2, .slice (some ⟨t5, 0, none⟩) 1 1] z fun e w' => ∃ ko kn kc kd vo vc pg ct', e = .returned (.tuple #[.int .i64 0, .agg #[.slice ko kn kc, .int .i64 kd, .slice vo 1 vc, .int .i64 pg, .int .i64 ct'], .bool true, .int .i64 0]) ∧ Hid (VL w' vo 1 vc [50] s ∧ Kp w' t3 vo3 vc3 [49] s ∧ Kp w' t4 vo4 vc4 [50] s ∧ Below w.heap.size w w' ∧ s ≤ w'.heap.size ∧ ∃ M, (∀ k, M k = none) ∧ Bq w' b m (0 + 1 + 1 + 1 + 1 + 1 + 1) M (1 - 1))) := hidden fun z hz => by
    have hn := HN.out
    have hl := HL5.out
    obtain ⟨q1, q2, q4, f, q5, q6⟩ := HQ5.out
    have hbz : Below w5.heap.size w5 z := by rw [hz]; exact bl_al (Below.refl _ _) (Nat.le_refl _) _
    have hwz : Below w.heap.size w z := bl_go q4 (Nat.le_refl _) hbz
    have hzs := hbz.size
    have a2 : Sl z (some ⟨t5, 0, none⟩) 1 1 [97] := by
      refine sl_lit z [97] 1 (1, 2) t5 ?_ rfl (Wf.cons (by omega) Wf.nil) (by omega)
      rw [hz, ← hl.1]
      exact heap_alloc_last w5 _
    refine (Delete_1 z b m (0 + 1 + 1 + 1 + 1) 2 (oneM f) 1 (q6.on hbz) (HTW.out z hwz) f tB (oneM_at f) q5 tB_gd wf2 (by omega) (by omega) (by omega) [97] (some ⟨t5, 0, none⟩) 1 (KS.of a2 (fun q hq => by injection hq with hq; subst hq; exact ⟨by simp only; omega, by simp only; omega⟩)) (by decide) rfl (by decide) (oneM_len tB_gd q5) (by omega)).mono ?_
    rintro e w' ⟨ko, kn, kc, kd, vo, vc, pg, ct', rfl, HQ⟩
    obtain ⟨r1, r2, r3⟩ := HQ.out
    have h1s := r1.size
    exact ⟨ko, kn, kc, kd, vo, vc, pg, ct', rfl, hidden ⟨⟨r2.1, fun q hq => by have := r2.2 q hq; omega⟩, (q1.on hbz).cf r1 (fun k hk => by rintro (e | e) <;> omega), (q2.on hbz).cf r1 (fun k hk => by rintro (e | e) <;> omega), HST.out z w' hwz r1, by omega, _, oneM_del f, r3⟩⟩
  clear HLN ht4 HQ3 HQ4
  go_wp2_with (first | (go_at_call 12; refine (HDL.out _ rfl).mono ?_; rintro e w6 ⟨ko6, kn6, kc6, kd6, vo6, vc6, pg6, ct6, rfl, HQ6⟩; refine Hid.out ?_))
  apply hidden
  clear HDL k1 ht5 HQ5
  obtain ⟨t6, ht6⟩ : ∃ t, w6.heap.size = t := ⟨_, rfl⟩
  have HL6 : Hid (w6.heap.size = t6) := hidden ht6
  have HTK : Hid (∀ z, z = w6.alloc (.cells #[.slice ko6 kn6 kc6, .int .i64 kd6, .slice vo6 1 vc6, .int .i64 pg6, .int .i64 ct6] 29) → Calls Tryz.prog 13 #[pB b] z fun e w' => ∃ ao cap, e = .returned (.slice ao 0 cap) ∧ Hid (Kp w' t3 vo3 vc3 [49] s ∧ Kp w' t4 vo4 vc4 [50] s ∧ Kp w' t6 vo6 vc6 [50] s ∧ Below w.heap.size w w' ∧ ∃ M, Bq w' b m (0 + 1 + 1 + 1 + 1 + 1 + 1) M (1 - 1))) := hidden fun z hz => by
    obtain ⟨q1, q2, q3, q4, q5, M, q6, q7⟩ := HQ6.out
    have hbz : Below w6.heap.size w6 z := by rw [hz]; exact bl_al (Below.refl _ _) (Nat.le_refl _) _
    have a6 : Kp z t6 vo6 vc6 [50] s := ⟨⟨ko6, kn6, kc6, kd6, pg6, ct6, by rw [hz, ← HL6.out]; exact C5.box w6 _ _ _ _ _⟩, q1.1.on (Nat.le_refl _) hbz, q1.2, by have := HL6.out; omega⟩
    refine (taken_list (q7.on hbz) (by omega) (by omega)).mono ?_
    rintro e w' ⟨v, rfl, HO, HB⟩
    have ho := HO.out
    rw [tkL_none M q6] at ho
    obtain ⟨ao, cap, rfl, _⟩ := ho.sl
    exact ⟨ao, cap, rfl, hidden ⟨(q2.on hbz).on HB.out, (q3.on hbz).on HB.out, a6.on HB.out, bl_go (bl_go q4 (Nat.le_refl _) hbz) (Nat.le_refl _) HB.out, M, (q7.on hbz).on HB.out⟩⟩
  go_wp2_with (first | (go_at_call 13; refine (HTK.out _ rfl).mono ?_; rintro e w7 ⟨ao7, cap7, rfl, HQ7⟩; refine Hid.out ?_))
  apply hidden
  clear HTK ht6 HQ6
  have HPN : Hid (Calls Tryz.prog 9 #[iB b, .int .i64 0, .agg #[.slice none 0 0, .int .i64 1, .slice none 0 0, .int .i64 0, .int .i64 0]] w7 fun e w' => e = .returned (.tuple #[.int .i64 0, .agg #[.slice none 0 0, .int .i64 0, .slice none 0 0, .int .i64 0, .int .i64 0], .bool false, .int .i64 31]) ∧ Hid (Kp w' t3 vo3 vc3 [49] s ∧ Kp w' t4 vo4 vc4 [50] s ∧ Kp w' t6 vo6 vc6 [50] s ∧ Below w.heap.size w w')) := hidden (by
    have hn := HN.out
    obtain ⟨q1, q2, q3, q4, M, q5⟩ := HQ7.out
    refine (Put_no w7 b m _ M _ q5).mono ?_
    rintro e w' ⟨rfl, HC⟩
    exact ⟨rfl, hidden ⟨q1.cf HC.out (fun k hk => by rintro (e | e) <;> omega), q2.cf HC.out (fun k hk => by rintro (e | e) <;> omega), q3.cf HC.out (fun k hk => by rintro (e | e) <;> omega), HST.out w7 w' q4 HC.out⟩⟩)
  go_wp2_with (first | (go_at_call 9; refine HPN.out.mono ?_; rintro e w8 ⟨rfl, HQ8⟩; refine Hid.out ?_))
  apply hidden
  clear HPN HQ7
  have HZ : Hid (∀ o, Kp (w8.alloc o) t3 vo3 vc3 [49] s ∧ Kp (w8.alloc o) t4 vo4 vc4 [50] s ∧ Kp (w8.alloc o) t6 vo6 vc6 [50] s ∧ Below w.heap.size w (w8.alloc o)) := hidden fun o => by
    have hb := bl_al (Below.refl w8.heap.size w8) (Nat.le_refl _) o
    obtain ⟨q1, q2, q3, q4⟩ := HQ8.out
    exact ⟨q1.on hb, q2.on hb, q3.on hb, bl_go q4 (Nat.le_refl _) hb⟩
  have d1 := fun o => (HZ.out o).1.cell2
  have d2 := fun o => (HZ.out o).2.1.cell2
  have d3 := fun o => (HZ.out o).2.2.1.cell2
  have v1 := fun o => (HZ.out o).1.conv1
  have v2 := fun o => (HZ.out o).2.1.conv2
  have v3 := fun o => (HZ.out o).2.2.1.conv2
  have HND := hidden (fun u => need_any 2 u)
  have e10 : needH 2 = 10 := by decide
  rw [e10] at HND
  go_wp2_with (first | (go_at_call 6; refine same_call (HND.out _) ?_))
  go_ret
  exact ⟨rfl, (HZ.out _).2.2.2⟩
end Go.Proofs.YtfcbfombobelmaaGreatDoor
