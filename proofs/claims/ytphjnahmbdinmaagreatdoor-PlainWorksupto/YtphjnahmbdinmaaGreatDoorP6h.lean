/- Layer 6: the law's play: Cell. -/
import Derived.Test.YtphjnahmbdinmaaGreatDoorJ45
namespace Go.Proofs.YtphjnahmbdinmaaGreatDoor
open Go.RowKit

set_option maxRecDepth 100000 in
theorem C5.news {w : World} {g : Nat} {x0 x1 x2 x3 x4 : Value} (h : C5 w g x0 x1 x2 x3 x4) : ∀ (j : Nat) (u : Value), [x0, x1, x2, x3, x4][j]? = some u → w.cell? ⟨g, 0 + j, none⟩ = some u := by
  obtain ⟨h0, h1, h2, h3, h4⟩ := h.cells
  intro j u hu
  rw [Nat.zero_add]
  match j, hu with
  | 0, hu => simp at hu; subst hu; exact h0
  | 1, hu => simp at hu; subst hu; exact h1
  | 2, hu => simp at hu; subst hu; exact h2
  | 3, hu => simp at hu; subst hu; exact h3
  | 4, hu => simp at hu; subst hu; exact h4
  | j + 5, hu => simp at hu
set_option maxRecDepth 100000 in
/-- The five values of a cell, its bytes one's own. -/
theorem r5_one {w : World} {B : Nat} {ao bo : Option Addr} {a2 b2 : Nat} {c : Cl} (h1 : OwnB w B (.slice ao c.key.length a2) c.key) (h2 : OwnB w B (.slice bo c.val.length b2) c.val) : R5B w B [.slice ao c.key.length a2, .int .i64 c.kd, .slice bo c.val.length b2, .int .i64 c.pg, .int .i64 c.ct] [c] := ⟨_, _, _, _, [], rfl, h1, h2, rfl⟩
set_option maxRecDepth 100000 in
theorem five_own {ao bo : Option Addr} {n1 a2 n2 b2 : Nat} {i1 i2 i3 : Int} {P : Nat → Prop} (h1 : ∀ z, (Value.slice ao n1 a2).ownBlock = some z → P z) (h2 : ∀ z, (Value.slice bo n2 b2).ownBlock = some z → P z) : ∀ y ∈ [Value.slice ao n1 a2, .int .i64 i1, .slice bo n2 b2, .int .i64 i2, .int .i64 i3], ∀ z, y.ownBlock = some z → P z := by
  intro y hy z hz
  simp only [List.mem_cons, List.not_mem_nil, or_false] at hy
  rcases hy with rfl | rfl | rfl | rfl | rfl
  · exact h1 z hz
  · simp [Value.ownBlock] at hz
  · exact h2 z hz
  · simp [Value.ownBlock] at hz
  · simp [Value.ownBlock] at hz
set_option maxRecDepth 100000 in
theorem five_ap {ao bo : Option Addr} {n1 a2 n2 b2 : Nat} {i1 i2 i3 : Int} (h : ∀ z, (Value.slice ao n1 a2).ownBlock = some z → ¬ (Value.slice bo n2 b2).ownBlock = some z) : [Value.slice ao n1 a2, .int .i64 i1, .slice bo n2 b2, .int .i64 i2, .int .i64 i3].Pairwise Ap2 := by
  have hi : ∀ (u : Value) (i : Int), Ap2 u (.int .i64 i) := fun u i z hz e => by simp [Value.ownBlock] at e
  refine List.Pairwise.cons ?_ (List.Pairwise.cons ?_ (List.Pairwise.cons ?_ (List.Pairwise.cons ?_ (List.Pairwise.cons ?_ List.Pairwise.nil))))
  · intro u hu
    simp only [List.mem_cons, List.not_mem_nil, or_false] at hu
    rcases hu with rfl | rfl | rfl | rfl
    · exact hi _ _
    · exact h
    · exact hi _ _
    · exact hi _ _
  · intro u hu
    exact (hi _ _).symm
  · intro u hu
    simp only [List.mem_cons, List.not_mem_nil, or_false] at hu
    rcases hu with rfl | rfl
    · exact hi _ _
    · exact hi _ _
  · intro u hu
    exact (hi _ _).symm
  · intro u hu
    simp at hu
set_option maxRecDepth 100000 in
theorem five_len {x0 x1 x2 x3 x4 : Value} : [x0, x1, x2, x3, x4].length = 5 := rfl
set_option maxRecDepth 100000 in
theorem five_one {ao bo : Option Addr} {n1 a2 n2 b2 : Nat} {i1 i2 i3 : Int} : ∀ u ∈ [Value.slice ao n1 a2, .int .i64 i1, .slice bo n2 b2, .int .i64 i2, .int .i64 i3], u.oneCell' = true := by
  intro u hu
  simp only [List.mem_cons, List.not_mem_nil, or_false] at hu
  rcases hu with rfl | rfl | rfl | rfl | rfl <;> rfl
set_option maxRecDepth 100000 in
/-- What a step of the pair's lists leaves of cells and bytes beside it. -/
theorem St6.keepC {w w2 : World} {B X a r : Nat} {k : Int} {n : Nat} {K M : Nat → Prop} {cp cd : List Cl} {L : Ls6} {vb vs vl v1 v2 v3 v4 : Value} {us ps : List Value} (h : St6 w B X a r k n K M cp cd L vb vs vl v1 v2 v3 v4 us ps) {e : TypeId} {s m : Nat} {v v' : Value} {xs : List Value} (hv : w.ownsRow B e s v m xs) (he : e = 40 ∨ e = 38 ∨ e = 9) (hg : Gr w v w2 v') (i : Nat) (y : Value) (A : Nat) (hX : X < A) (hA : ∀ z, v.ownBlock = some z → z < A) :
    (∀ C u l, OwnB w C u l → OwnB (w2.setCell ⟨X, i, none⟩ y) C u l) ∧ (∀ g x0 x1 x2 x3 x4, A ≤ g → C5 w g x0 x1 x2 x3 x4 → C5 (w2.setCell ⟨X, i, none⟩ y) g x0 x1 x2 x3 x4) := by
  obtain ⟨hcf, _, _, _, _, hK8, _, _⟩ := h.grow hv he hg i y
  refine ⟨fun C u l ho => ho.cfT (K := fun _ => True) hcf (fun _ _ => trivial) (hK8 _), fun g x0 x1 x2 x3 x4 hg h5 => h5.cf hcf ?_⟩
  rintro (rfl | e)
  · omega
  · have := hA g e
    omega
set_option maxRecDepth 100000 in
theorem C5.boxd (w : World) (x0 x1 x2 x3 x4 : Value) : C5 (w.alloc (.cells #[x0, x1, x2, x3, x4] 40)).drew w.heap.size x0 x1 x2 x3 x4 := C5.box w x0 x1 x2 x3 x4
set_option maxRecDepth 100000 in
theorem C5.kc {u u' : World} (h : Below u.heap.size u u') : Kc5 u u' := fun _ _ _ _ _ _ hx => box_on hx h
set_option maxRecDepth 100000 in
/-- Bytes stay where a cell is written. -/
theorem OwnB.put5 {w : World} {C g : Nat} {v x0 x1 x2 x3 x4 y0 y1 y2 y3 y4 : Value} {l : List Int} (ho : OwnB w C v l) (h5 : C5 w g x0 x1 x2 x3 x4) : OwnB (put5 w g y0 y1 y2 y3 y4) C v l :=
  ho.cfT (K := fun _ => True) (put5_cf w g y0 y1 y2 y3 y4) (fun _ _ => trivial) (by
    intro z cur fz _ hh e
    have e1 : z = g := e
    subst e1
    unfold C5 at h5
    rw [h5] at hh
    injection hh with hh
    injection hh with _ e2 _
    exact absurd e2 (by decide))
set_option maxRecDepth 100000 in
set_option maxHeartbeats 4000000 in
theorem play6_cell (w : World) (B X r : Nat) (k : Int) (n t : Nat) (h : PaE w B X r k n t) (htt : t ≤ 4000000) (x : Int) (ka : Option Addr) (kn kc : Nat) (kd : Int) (va : Option Addr) (vn vc : Nat) (pg ct : Int) :
    Calls Tryz.prog 7 #[.pointer (some ⟨X, 0, none⟩), opV6 4 x ka kn kc kd va vn vc pg ct] w (PlTo w B X r k n t) := by
  obtain ⟨L, hL, cs, a, K, M, vb, vs, vl, v1, v2, v3, v4, us, ps, g, hs⟩ := h
  unfold opV6
  obtain ⟨s, hsz⟩ : ∃ s, w.heap.size = s := ⟨_, rfl⟩
  obtain ⟨y, hy⟩ : ∃ y, w.alloc (.cells #[.int .i64 4, .int .i64 x, .slice ka kn kc, .int .i64 kd, .slice va vn vc, .int .i64 pg, .int .i64 ct] 42) = y := ⟨_, rfl⟩
  have hby : Below w.heap.size w y := by rw [← hy]; exact bl_al (Below.refl _ _) (Nat.le_refl _) _
  have hbox : O7 y s 4 x ka kn kc kd va vn vc pg ct := by rw [← hy, ← hsz]; exact heap_alloc_last w _
  obtain ⟨A, hA⟩ : ∃ A, y.heap.size = A := ⟨_, rfl⟩
  have hys : A = s + 1 := by rw [← hA, ← hy, ← hsz]; simp
  have hsy := hs.on hby
  have hn2 := (pw_nat g.sz).2
  obtain ⟨c, hc⟩ : ∃ c, cellE cs x = c := ⟨_, rfl⟩
  obtain ⟨E, hE⟩ : ∃ E, remE cs x = E := ⟨_, rfl⟩
  have hcok : c.Wf ∧ c.key.length ≤ 65536 ∧ c.val.length ≤ 65536 := by
    rw [← hc]
    unfold cellE
    split
    · rename_i hx
      have hlt : x.toNat < cs.length := by omega
      rw [List.getElem?_eq_getElem hlt, Option.getD_some]
      have hm : cs[x.toNat] ∈ cs := List.getElem_mem hlt
      exact ⟨g.wf _ hm, (g.may _ hm).short (by omega)⟩
    · exact ⟨⟨Wf.nil, Wf.nil⟩, by simp, by simp⟩
  have HO : Hid (∀ u, Below y.heap.size y u → Calls Tryz.prog 27 #[.pointer (some ⟨a, 0, none⟩), .int .i64 x] u fun e u1 => ∃ ao a2 bo b2, e = .returned (.tuple #[.agg #[.slice ao c.key.length a2, .int .i64 c.kd, .slice bo c.val.length b2, .int .i64 c.pg, .int .i64 c.ct], .int .i64 E]) ∧ Hid (OwnB u1 A (.slice ao c.key.length a2) c.key ∧ OwnB u1 A (.slice bo c.val.length b2) c.val ∧ ∀ z, (Value.slice ao c.key.length a2).ownBlock = some z → ¬ (Value.slice bo c.val.length b2).ownBlock = some z) ∧ Hid (Below y.heap.size y u1) ∧ Hid (Kc5 u u1)) := hidden (by
    intro u hu
    refine (cellO_any u B a k n vb vs cs x (hsy.on hu).po g.wf g.fit g.size hn2).mono ?_
    rw [hc, hE]
    rintro e u1 ⟨ao, a2, bo, b2, rfl, h1, h2⟩
    have hl : A ≤ u.heap.size := by rw [← hA]; exact hu.size
    exact ⟨ao, a2, bo, b2, rfl, hidden ⟨h1.out.1.low hl, h1.out.2.1.low hl, h1.out.2.2⟩, hidden (bl_go hu (Nat.le_refl _) h2.out), hidden (C5.kc h2.out)⟩)
  have HR : Hid (∀ u v, Below y.heap.size y u → Below u.heap.size u v → Calls Tryz.prog 28 #[.pointer (some ⟨r, 0, none⟩), .int .i64 x] v fun e u1 => ∃ ao a2 bo b2, e = .returned (.tuple #[.agg #[.slice ao c.key.length a2, .int .i64 c.kd, .slice bo c.val.length b2, .int .i64 c.pg, .int .i64 c.ct], .int .i64 E]) ∧ Hid (OwnB u1 u.heap.size (.slice ao c.key.length a2) c.key ∧ OwnB u1 u.heap.size (.slice bo c.val.length b2) c.val) ∧ Hid (Below u.heap.size u u1) ∧ Hid (Kc5 v u1)) := hidden (by
    intro u v hu hv
    refine (rcell_any v B K r k n vl cs x ((hsy.on hu).on hv).dp g.rooms (by have := g.len; omega)).mono ?_
    rw [hc, hE]
    rintro e u1 ⟨ao, a2, bo, b2, rfl, h1, h2⟩
    exact ⟨ao, a2, bo, b2, rfl, hidden ⟨h1.out.1.low hv.size, h1.out.2.low hv.size⟩, hidden (bl_go hv (Nat.le_refl _) h2.out), hidden (C5.kc h2.out)⟩)
  have HS := hidden hs
  have HG := hidden g
  have HL := hidden hL
  have HSY := hidden hsy
  have HBY := hidden hby
  have HBOX := hidden hbox
  have HCK := hidden hcok
  have HA := hidden hA
  have HYS := hidden hys
  have HTT := hidden htt
  obtain ⟨c0, c1, c2, c3, c4, c5, c6⟩ := hbox.cells
  obtain ⟨p0, p1, p2, p3, p4, p5⟩ := hsy.px.cells
  obtain ⟨key, kd', val, pg', ct'⟩ := c
  simp only at HO HR HCK
  obtain ⟨kl, hkl⟩ : ∃ kl, key.length = kl := ⟨_, rfl⟩
  obtain ⟨vl', hvl⟩ : ∃ vl', val.length = vl' := ⟨_, rfl⟩
  rw [hkl, hvl] at HO HR
  have HKL := hidden hkl
  have HVL := hidden hvl
  clear hs g hL hsy hby hbox hcok hA hys hn2 hc hE htt hkl hvl
  go_enter Tryz.func7, Tryz.ntmps7
  have hns : ¬ s = y.heap.size := by have := lt_some HBOX.out; omega
  have hnX : ¬ X = y.heap.size := by have := lt_some HSY.out.px; omega
  have hyz : Below y.heap.size y (y.alloc (.cells #[.slice none 0 0, .int .i64 0, .slice none 0 0, .int .i64 0, .int .i64 0] 40)) := bl_al (Below.refl _ _) (Nat.le_refl _) _
  obtain ⟨-, m1, -⟩ := (show O7 (y.alloc (.cells #[.slice none 0 0, .int .i64 0, .slice none 0 0, .int .i64 0, .int .i64 0] 40)) s 4 x ka kn kc kd va vn vc pg ct from box_on HBOX.out hyz).cells
  obtain ⟨m2, m3, -⟩ := (HSY.out.on hyz).px.cells
  clear hyz
  go_upto_region 9 with fail
  go_cut [6, 7] (fun v v' u => ∃ s6 ao a2 bo b2, v = .pointer (some ⟨s6, 0, none⟩) ∧ v' = .int .i64 E ∧ Hid (C5 u s6 (.slice ao kl a2) (.int .i64 kd') (.slice bo vl' b2) (.int .i64 pg') (.int .i64 ct') ∧ A ≤ s6) ∧ Hid (OwnB u A (.slice ao kl a2) key ∧ OwnB u A (.slice bo vl' b2) val ∧ ∀ z, (Value.slice ao kl a2).ownBlock = some z → ¬ (Value.slice bo vl' b2).ownBlock = some z) ∧ Hid (Below y.heap.size y u))
  case first =>
    go_wp2_with fail
    go_region_law (first
      | (go_simp; go_at_call 27; refine (HO.out _ (by first | with_reducible exact Below.refl _ _ | with_reducible exact (Below.refl _ _).drew | with_reducible exact ((Below.refl _ _).alloc (Nat.le_refl _) _).drew | with_reducible exact bl_dr (Below.refl _ _) _)).mono ?_; rintro e u1 ⟨ao, a2, bo, b2, rfl, HO1, HU1, HKC⟩; try (have hz5 := HKC.out _ _ _ _ _ _ (by with_reducible exact C5.boxd y _ _ _ _ _); obtain ⟨z0, z1, z2, z3, z4⟩ := hz5.cells; obtain ⟨w0, w1, w2, w3, w4⟩ := hz5.free; replace hz5 := hidden hz5)))
    all_goals (try go_wp2_with fail)
    all_goals go_meet
    all_goals
      have hba : Below u1.heap.size u1 (u1.alloc (.cells #[.slice ao kl a2, .int .i64 kd', .slice bo vl' b2, .int .i64 pg', .int .i64 ct'] 40)) := bl_al (Below.refl _ _) (Nat.le_refl _) _
      first
        | exact ⟨y.heap.size, ao, a2, bo, b2, rfl, rfl, hidden ⟨hz5.out.put _ _ _ _ _, by rw [← HA.out]; exact Nat.le_refl _⟩, hidden ⟨HO1.out.1.put5 hz5.out, HO1.out.2.1.put5 hz5.out, HO1.out.2.2⟩, hidden (HU1.out.trans ((put5_cf u1 y.heap.size _ _ _ _ _).below HU1.out.size (by intro i hi e; omega)))⟩
        | exact ⟨u1.heap.size, ao, a2, bo, b2, rfl, rfl, hidden ⟨C5.box u1 _ _ _ _ _, by rw [← HA.out]; exact HU1.out.size⟩, hidden ⟨HO1.out.1.on (Nat.le_refl _) hba, HO1.out.2.1.on (Nat.le_refl _) hba, HO1.out.2.2⟩, hidden (bl_go HU1.out (Nat.le_refl _) hba)⟩
  obtain ⟨s6, ao, a2, bo, b2, rfl, rfl, HC6, HO6, HU6⟩ := hcut
  obtain ⟨uA, huA⟩ : ∃ uA, uA = wc := ⟨_, rfl⟩
  subst huA
  clear c0 c1 c2 c3 c4 c5 c6 p0 p1 p2 p3 p4 p5 HO
  obtain ⟨c0, c1, c2, c3, c4, c5, c6⟩ := (show O7 uA s 4 x ka kn kc kd va vn vc pg ct from box_on HBOX.out HU6.out).cells
  obtain ⟨p0, p1, p2, p3, p4, p5⟩ := (HSY.out.on HU6.out).px.cells
  clear hns hnX m1 m2 m3
  have hns : ¬ s = uA.heap.size := by have := lt_some HBOX.out; have := HU6.out.size; omega
  have hnX : ¬ X = uA.heap.size := by have := lt_some HSY.out.px; have := HU6.out.size; omega
  have hyz : Below uA.heap.size uA (uA.alloc (.cells #[.slice none 0 0, .int .i64 0, .slice none 0 0, .int .i64 0, .int .i64 0] 40)) := bl_al (Below.refl _ _) (Nat.le_refl _) _
  obtain ⟨-, m1, -⟩ := (show O7 (uA.alloc (.cells #[.slice none 0 0, .int .i64 0, .slice none 0 0, .int .i64 0, .int .i64 0] 40)) s 4 x ka kn kc kd va vn vc pg ct from box_on (box_on HBOX.out HU6.out) hyz).cells
  obtain ⟨m2, m3, -⟩ := ((HSY.out.on HU6.out).on hyz).px.cells
  clear hyz
  go_upto_region 10 with fail
  go_cut [8, 9] (fun v v' u => ∃ s8 co a3 do' b3, v = .pointer (some ⟨s8, 0, none⟩) ∧ v' = .int .i64 E ∧ Hid (C5 u s8 (.slice co kl a3) (.int .i64 kd') (.slice do' vl' b3) (.int .i64 pg') (.int .i64 ct') ∧ A ≤ s8) ∧ Hid (OwnB u uA.heap.size (.slice co kl a3) key ∧ OwnB u uA.heap.size (.slice do' vl' b3) val) ∧ Hid (Below uA.heap.size uA u))
  case first =>
    go_wp2_with fail
    go_region_law (first
      | (go_simp; go_at_call 28; refine (HR.out uA _ HU6.out (by first | with_reducible exact Below.refl _ _ | with_reducible exact (Below.refl _ _).drew | with_reducible exact ((Below.refl _ _).alloc (Nat.le_refl _) _).drew | with_reducible exact bl_dr (Below.refl _ _) _)).mono ?_; rintro e u1 ⟨co, a3, do', b3, rfl, HO1, HU1, HKC⟩; try (have hz5 := HKC.out _ _ _ _ _ _ (by with_reducible exact C5.boxd uA _ _ _ _ _); obtain ⟨z0, z1, z2, z3, z4⟩ := hz5.cells; obtain ⟨w0, w1, w2, w3, w4⟩ := hz5.free; replace hz5 := hidden hz5)))
    all_goals (try go_wp2_with fail)
    all_goals go_meet
    all_goals
      have hba : Below u1.heap.size u1 (u1.alloc (.cells #[.slice co kl a3, .int .i64 kd', .slice do' vl' b3, .int .i64 pg', .int .i64 ct'] 40)) := bl_al (Below.refl _ _) (Nat.le_refl _) _
      first
        | exact ⟨uA.heap.size, co, a3, do', b3, rfl, rfl, hidden ⟨hz5.out.put _ _ _ _ _, by rw [← HA.out]; exact HU6.out.size⟩, hidden ⟨HO1.out.1.put5 hz5.out, HO1.out.2.put5 hz5.out⟩, hidden (HU1.out.trans ((put5_cf u1 uA.heap.size _ _ _ _ _).below HU1.out.size (by intro i hi e; omega)))⟩
        | exact ⟨u1.heap.size, co, a3, do', b3, rfl, rfl, hidden ⟨C5.box u1 _ _ _ _ _, by rw [← HA.out]; exact Nat.le_trans HU6.out.size HU1.out.size⟩, hidden ⟨HO1.out.1.on (Nat.le_refl _) hba, HO1.out.2.on (Nat.le_refl _) hba⟩, hidden (bl_go HU1.out (Nat.le_refl _) hba)⟩
  obtain ⟨s8, co, a3, do', b3, rfl, rfl, HC8, HO8, HU8⟩ := hcut
  obtain ⟨uB, huB⟩ : ∃ uB, uB = wc := ⟨_, rfl⟩
  subst huB
  clear c0 c1 c2 c3 c4 c5 c6 p0 p1 p2 p3 p4 p5 HR HBOX hns hnX m1 m2 m3
  -- what came
  have hwB : Below w.heap.size w uB := bl_go (bl_go HBY.out (Nat.le_refl _) HU6.out) (Nat.le_refl _) HU8.out
  have stB := HS.out.on hwB
  have h6B : C5 uB s6 (.slice ao kl a2) (.int .i64 kd') (.slice bo vl' b2) (.int .i64 pg') (.int .i64 ct') := box_on HC6.out.1 HU8.out
  have hoB1 := HO6.out.1.on (Nat.le_refl _) HU8.out
  have hoB2 := HO6.out.2.1.on (Nat.le_refl _) HU8.out
  obtain ⟨sB, hsB⟩ : ∃ sB, uB.heap.size = sB := ⟨_, rfl⟩
  obtain ⟨o, ho⟩ : ∃ o : Obj, Obj.cells #[.slice ao kl a2, .int .i64 kd', .slice bo vl' b2, .int .i64 pg', .int .i64 ct'] 40 (0, 0) = o := ⟨_, rfl⟩
  have hbC : Below uB.heap.size uB (uB.alloc o).drew := ((Below.refl _ _).alloc (Nat.le_refl _) _).drew
  have hbC0 : Below uB.heap.size uB (uB.alloc o) := (Below.refl _ _).alloc (Nat.le_refl _) _
  have stC := stB.on hbC
  have h5C : C5 (uB.alloc o).drew sB (.slice ao kl a2) (.int .i64 kd') (.slice bo vl' b2) (.int .i64 pg') (.int .i64 ct') := by
    rw [← ho, ← hsB]
    exact C5.box uB _ _ _ _ _
  have hlc := HL.out.2.2.1
  have hlt := HTT.out
  obtain ⟨gD, cD, uD, hrD, hrowD, hgrD⟩ := run_c1 (uB.alloc o).drew 32 B v1 L.ces.length us [.slice ao kl a2, .int .i64 kd', .slice bo vl' b2, .int .i64 pg', .int .i64 ct'] sB stC.cm.cm five_len five_one h5C.news (by omega) stC.size
  have hkl := HKL.out
  have hvl := HVL.out
  have hsA := HA.out
  have hyS := HYS.out
  have hswB := HS.out.size
  have hfr : ∀ {v : Value} {C : Nat} {l : List Int}, OwnB uB C v l → A ≤ C → ∀ z, v.ownBlock = some z → Fre (uB.alloc o).drew B K M vb z := fun ho hC z hz => HS.out.new hswB (by have := (World.ownsRow.lt ho z hz).1; omega) (Nat.lt_of_lt_of_le (World.ownsRow.lt ho z hz).2 hbC.size)
  have hAB : A ≤ uA.heap.size := by rw [← hsA]; exact HU6.out.size
  have hcame := stC.came (c := ⟨key, kd', val, pg', ct'⟩) hgrD hrowD (by
    have := r5_one (c := ⟨key, kd', val, pg', ct'⟩) (ao := ao) (bo := bo) (a2 := a2) (b2 := b2) (w := (uB.alloc o).drew) (B := B) (by simp only; rw [hkl]; exact (hoB1.on (Nat.le_refl _) hbC).low (by omega)) (by simp only; rw [hvl]; exact (hoB2.on (Nat.le_refl _) hbC).low (by omega))
    simp only at this
    rw [hkl, hvl] at this
    exact this) HCK.out (five_own (hfr hoB1 (Nat.le_refl _)) (hfr hoB2 (Nat.le_refl _))) (five_ap HO6.out.2.2)
  obtain ⟨M', stE, hfrE, hblE⟩ := hcame
  have hX : X < A := by have := lt_some HS.out.px; omega
  have hkpE := stC.keepC stC.cm.cm (.inl rfl) hgrD 2 (.slice (some ⟨gD, 0, none⟩) (L.ces.length + 1) cD) A hX (fun z hz => by have := (World.ownsRow.lt HS.out.cm.cm z hz).2; omega)
  have hpxD := (stC.grow stC.cm.cm (.inl rfl) hgrD 2 (.slice (some ⟨gD, 0, none⟩) (L.ces.length + 1) cD)).2.2.1
  have FK : ∀ z, Fre (uB.alloc o).drew B K M vb z → uA.heap.size ≤ z → Fre (uD.setCell ⟨X, 2, none⟩ (.slice (some ⟨gD, 0, none⟩) (L.ces.length + 1) cD)) B K M' vb z := by
    intro z hz hl
    refine hfrE z hz fun y hy e => ?_
    have h1 := (World.ownsRow.lt HO6.out.1)
    have h2 := (World.ownsRow.lt HO6.out.2.1)
    have := five_own (P := fun z => z < uA.heap.size) (fun z hz => (h1 z hz).2) (fun z hz => (h2 z hz).2) y hy z e
    omega
  have hoE1 := hkpE.1 _ _ _ (hoB1.on (Nat.le_refl _) hbC)
  have hoE2 := hkpE.1 _ _ _ (hoB2.on (Nat.le_refl _) hbC)
  have hoE3 := hkpE.1 _ _ _ (HO8.out.1.on (Nat.le_refl _) hbC)
  have hoE4 := hkpE.1 _ _ _ (HO8.out.2.on (Nat.le_refl _) hbC)
  have h6E := hkpE.2 s6 _ _ _ _ _ HC6.out.2 (box_on h6B hbC)
  have h8E := hkpE.2 s8 _ _ _ _ _ HC8.out.2 (box_on HC8.out.1 hbC)
  have hBE : Below B w (uD.setCell ⟨X, 2, none⟩ (.slice (some ⟨gD, 0, none⟩) (L.ces.length + 1) cD)) := (bl_low (bl_go hwB (Nat.le_refl _) hbC) hswB).trans hblE
  have hFE3 : ∀ z, (Value.slice co kl a3).ownBlock = some z → Fre (uD.setCell ⟨X, 2, none⟩ (.slice (some ⟨gD, 0, none⟩) (L.ces.length + 1) cD)) B K M' vb z := fun z hz => FK z (hfr HO8.out.1 hAB z hz) (World.ownsRow.lt HO8.out.1 z hz).1
  have hFE4 : ∀ z, (Value.slice do' vl' b3).ownBlock = some z → Fre (uD.setCell ⟨X, 2, none⟩ (.slice (some ⟨gD, 0, none⟩) (L.ces.length + 1) cD)) B K M' vb z := fun z hz => FK z (hfr HO8.out.2 hAB z hz) (World.ownsRow.lt HO8.out.2 z hz).1
  obtain ⟨y0, y1, y2, y3, y4, y5⟩ := hpxD.cells
  have f2 := hpxD.free 2
  obtain ⟨p0, p1, p2, p3, p4, p5⟩ := stB.px.cells
  have q2 := (stB.on hbC0).px.cells.2.2.1
  have q2' := stC.px.cells.2.2.1
  obtain ⟨d0, d1, d2, d3, d4⟩ := h6B.cells
  obtain ⟨uE, huE⟩ : ∃ uE, uD.setCell ⟨X, 2, none⟩ (.slice (some ⟨gD, 0, none⟩) (L.ces.length + 1) cD) = uE := ⟨_, rfl⟩
  rw [huE] at stE hoE1 hoE2 hoE3 hoE4 h6E h8E hBE hFE3 hFE4
  obtain ⟨NC, hNC⟩ : ∃ NC, L.ces.length + 1 = NC := ⟨_, rfl⟩
  rw [hNC] at huE hrD stE
  have STE := hidden stE
  have HOE := hidden (And.intro hoE1 (And.intro hoE2 (And.intro hoE3 hoE4)))
  have H5E := hidden (And.intro h6E h8E)
  have HBE := hidden hBE
  have HFE := hidden (And.intro hFE3 hFE4)
  have HRD := hidden hrD
  have HX := hidden hX
  have HAU : Hid (B ≤ uA.heap.size) := hidden (by omega)
  have H6A := hidden HC6.out.2
  have H8A := hidden HC8.out.2
  clear hwB stB h6B hoB1 hoB2 hbC hbC0 stC h5C hlc hlt hrD hrowD hgrD hkl hvl hsA hyS hswB hfr hAB stE hfrE hblE hX hkpE hpxD FK hoE1 hoE2 hoE3 hoE4 h6E h8E hBE hFE3 hFE4 hNC HC6 HO6 HU6 HC8 HO8 HU8 HSY HBY
  go_wp2_with fail
  go_region_law (refine step_app rfl (.tmp 76) (.tmp 78) _ _ rfl _ _ rfl rfl HRD.out ?_)
  all_goals
    clear HRD y0 y1 y2 y3 y4 y5 f2 p0 p1 p2 p3 p4 p5 q2 q2' d0 d1 d2 d3 d4 huE hsB ho
    obtain ⟨sE, hsE⟩ : ∃ sE, uE.heap.size = sE := ⟨_, rfl⟩
    obtain ⟨o2, ho2⟩ : ∃ o2 : Obj, Obj.cells #[.slice co kl a3, .int .i64 kd', .slice do' vl' b3, .int .i64 pg', .int .i64 ct'] 40 (0, 0) = o2 := ⟨_, rfl⟩
    have hbF : Below uE.heap.size uE (uE.alloc o2).drew := ((Below.refl _ _).alloc (Nat.le_refl _) _).drew
    have hbF0 : Below uE.heap.size uE (uE.alloc o2) := (Below.refl _ _).alloc (Nat.le_refl _) _
    have stF := STE.out.on hbF
    have h5F : C5 (uE.alloc o2).drew sE (.slice co kl a3) (.int .i64 kd') (.slice do' vl' b3) (.int .i64 pg') (.int .i64 ct') := by
      rw [← ho2, ← hsE]
      exact C5.box uE _ _ _ _ _
    obtain ⟨ws, hw1, hw2, hw3⟩ := stF.cm.wt
    simp only at hw1 hw2
    have hlw : L.wes.length ≤ 4000000 := by rw [HL.out.1]; have := HL.out.2.2.1; have := HTT.out; omega
    obtain ⟨gH, cH, uG, hrH, hrowH, hgrH⟩ := run_c1 (uE.alloc o2).drew 32 B v2 L.wes.length ws [.slice co kl a3, .int .i64 kd', .slice do' vl' b3, .int .i64 pg', .int .i64 ct'] sE hw1 five_len five_one h5F.news hlw stF.size
    have hkl := HKL.out
    have hvl := HVL.out
    have hAu := HAU.out
    have hwant := stF.want (c := ⟨key, kd', val, pg', ct'⟩) hw1 hw2 hw3 hgrH hrowH (by
      have := r5_one (c := ⟨key, kd', val, pg', ct'⟩) (ao := co) (bo := do') (a2 := a3) (b2 := b3) (w := (uE.alloc o2).drew) (B := B) (by simp only; rw [hkl]; exact (HOE.out.2.2.1.on (Nat.le_refl _) hbF).low hAu) (by simp only; rw [hvl]; exact (HOE.out.2.2.2.on (Nat.le_refl _) hbF).low hAu)
      simp only at this
      rw [hkl, hvl] at this
      exact this) (five_own (fun z hz => (HFE.out.1 z hz).on hbF.size) (fun z hz => (HFE.out.2 z hz).on hbF.size))
    obtain ⟨K', stH, hblH⟩ := hwant
    have hkpH := stF.keepC hw1 (.inl rfl) hgrH 3 (.slice (some ⟨gH, 0, none⟩) (L.wes.length + 1) cH) A HX.out (fun z hz => by
      obtain ⟨ws0, g1, _⟩ := HS.out.cm.wt
      have := (World.ownsRow.lt g1 z hz).2
      have := HYS.out
      omega)
    have hpxG := (stF.grow hw1 (.inl rfl) hgrH 3 (.slice (some ⟨gH, 0, none⟩) (L.wes.length + 1) cH)).2.2.1
    have hoH1 := hkpH.1 _ _ _ (HOE.out.1.on (Nat.le_refl _) hbF)
    have hoH2 := hkpH.1 _ _ _ (HOE.out.2.1.on (Nat.le_refl _) hbF)
    have hoH3 := hkpH.1 _ _ _ (HOE.out.2.2.1.on (Nat.le_refl _) hbF)
    have hoH4 := hkpH.1 _ _ _ (HOE.out.2.2.2.on (Nat.le_refl _) hbF)
    have h6H := hkpH.2 s6 _ _ _ _ _ H6A.out (box_on H5E.out.1 hbF)
    have h8H := hkpH.2 s8 _ _ _ _ _ H8A.out (box_on H5E.out.2 hbF)
    have hBH := HBE.out.trans ((bl_low hbF STE.out.size).trans hblH)
    obtain ⟨y0, y1, y2, y3, y4, y5⟩ := hpxG.cells
    have f3 := hpxG.free 3
    obtain ⟨p0, p1, p2, p3, p4, p5⟩ := STE.out.px.cells
    have q3 := (STE.out.on hbF0).px.cells.2.2.2.1
    have q3' := stF.px.cells.2.2.2.1
    obtain ⟨d0, d1, d2, d3, d4⟩ := H5E.out.2.cells
    obtain ⟨uH, huH⟩ : ∃ uH, uG.setCell ⟨X, 3, none⟩ (.slice (some ⟨gH, 0, none⟩) (L.wes.length + 1) cH) = uH := ⟨_, rfl⟩
    rw [huH] at stH hoH1 hoH2 hoH3 hoH4 h6H h8H hBH
    obtain ⟨NH, hNH⟩ : ∃ NH, L.wes.length + 1 = NH := ⟨_, rfl⟩
    rw [hNH] at huH hrH stH
    have STH := hidden stH
    have H5H := hidden (And.intro h6H h8H)
    have HBH := hidden hBH
    have HRH := hidden hrH
    have HSC : Hid (Calls Tryz.prog 29 #[.agg #[.slice ao kl a2, .int .i64 kd', .slice bo vl' b2, .int .i64 pg', .int .i64 ct'], .agg #[.slice co kl a3, .int .i64 kd', .slice do' vl' b3, .int .i64 pg', .int .i64 ct']] uH fun e w' => e = .returned (.bool true) ∧ Hid (Below uH.heap.size uH w')) := by
      have hc1 := HCK.out
      have l1 : key.length ≤ 140737488355328 := by have := hc1.2.1; omega
      have l2 : val.length ≤ 140737488355328 := by have := hc1.2.2; omega
      have := sameCell_self ⟨key, kd', val, pg', ct'⟩ ao co bo do' a2 a3 b2 b3 uH (by simp only; rw [hkl]; exact hoH1.sl2 hc1.1.1 l1) (by simp only; rw [hkl]; exact hoH3.sl2 hc1.1.1 l1) (by simp only; rw [hvl]; exact hoH2.sl2 hc1.1.2 l2) (by simp only; rw [hvl]; exact hoH4.sl2 hc1.1.2 l2)
      simp only at this
      rw [hkl, hvl] at this
      exact hidden (this.mono fun e w' h => ⟨h.1, hidden h.2⟩)
    clear hbF hbF0 stF h5F hw1 hw2 hw3 hlw hrH hrowH hgrH hkl hvl hAu stH hblH hkpH hpxG hoH1 hoH2 hoH3 hoH4 h6H h8H hBH hNH STE HOE H5E HBE HFE
    go_wp2_with fail
    go_region_law (refine step_app rfl (.tmp 86) (.tmp 88) _ _ rfl _ _ rfl rfl HRH.out ?_)
    all_goals
      clear HRH y0 y1 y2 y3 y4 y5 f3 p0 p1 p2 p3 p4 p5 q3 q3' d0 d1 d2 d3 d4 huH hsE ho2
      obtain ⟨d0, d1, d2, d3, d4⟩ := H5H.out.1.cells
      obtain ⟨b0, b1, b2', b3', b4⟩ := H5H.out.2.cells
      have eEE : decide (E = E) = true := by simp
      go_wp2_with (first | (go_at_call 29; refine HSC.out.mono ?_; rintro e uK ⟨rfl, HUK⟩))
      go_ret
      exact ⟨rfl, hidden ⟨_, HL.out.cell ⟨key, kd', val, pg', ct'⟩, cs, a, K', M', vb, vs, vl, _, _, v3, v4, _, ps, HG.out, STH.out.on HUK.out⟩, hidden (HBH.out.trans (bl_low HUK.out STH.out.size))⟩
end Go.Proofs.YtphjnahmbdinmaaGreatDoor
