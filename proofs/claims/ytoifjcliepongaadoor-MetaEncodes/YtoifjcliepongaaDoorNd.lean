/- owned: what stands while the answers are grown. -/
import Derived.Test.YtoifjcliepongaaDoorNc
namespace Go.Proofs.YtoifjcliepongaaDoor
open Go.RowKit

/-- While the answer i is grown: x is it by now, H is what has grown. -/
structure P2 (u wr : World) (B B2 : Nat) (G : List (Option (Nat × List Int))) (i n kx kh : Nat) (x vG v : Value) (H : List (Nat × Nat × Nat)) : Prop where
  hx : OwnB wr B x (rp (n + kx) ((i : Int) + 1))
  hv : OwnS wr B v G
  hG : OwnH wr B2 vG H
  len : H.length = 16 * i + kh
  rows : ∀ (q b m c : Nat), H[q]? = some (b, m, c) → (m ≤ c ∧ m ≤ 70000) ∧ (∃ cs fz, wr.heap[b]? = some (.cells cs 5 fz)) ∧ (∀ s, s < m → wr.cell? ⟨b, s, none⟩ = some (.int .u8 (((q / 16 : Nat) : Int) + 1))) ∧ (some b = x.ownBlock → q / 16 = i ∧ m ≤ n + kx)
  left : ∀ (t g : Nat) (l : List Int), i < t → G[t]? = some (some (g, l)) → Bk wr g (rp l.length ((t : Int) + 1)) ∧ some g ≠ x.ownBlock ∧ ∀ (q b m c : Nat), H[q]? = some (b, m, c) → b ≠ g
  bl : Below B u wr
  bB : B ≤ u.heap.size
  b2 : B2 ≤ wr.heap.size
  vb : ∀ gs, v.ownBlock = some gs → gs < B2

set_option maxRecDepth 100000 in
theorem OwnB.block {w : World} {B : Nat} {x : Value} {l : List Int} (h : OwnB w B x l) {b : Nat} (hb : some b = x.ownBlock) : (∃ cs fz, w.heap[b]? = some (.cells cs 5 fz)) ∧ ∃ cap, x = .slice (some ⟨b, 0, none⟩) l.length cap ∧ l.length ≤ cap := by
  rcases h.2 with ⟨rfl, _⟩ | ⟨k, cap, cur, rfl, _, hk, hnc, _⟩
  · cases hb
  · injection hb with hb
    have hb' : b = k := hb
    subst hb'
    exact ⟨⟨cur, _, hk⟩, cap, rfl, hnc⟩
set_option maxRecDepth 100000 in
theorem OwnB.at5 {w : World} {B : Nat} {x : Value} {n : Nat} {y : Int} (h : OwnB w B x (rp n y)) {b : Nat} (hb : some b = x.ownBlock) (s : Nat) (hs : s < n) : w.cell? ⟨b, s, none⟩ = some (.int .u8 y) := by
  obtain ⟨_, cap, rfl, _⟩ := h.block hb
  have hl := rp_length n y
  rw [hl] at h
  rw [own_cell h hl hs, rp_getD n y s hs]

set_option maxRecDepth 100000 in
theorem P2.on {u wr w' : World} {B B2 : Nat} {G : List (Option (Nat × List Int))} {i n kx kh : Nat} {x vG v : Value} {H : List (Nat × Nat × Nat)} (h : P2 u wr B B2 G i n kx kh x vG v H) (hb : Below wr.heap.size wr w') : P2 u w' B B2 G i n kx kh x vG v H :=
  ⟨h.hx.go5 hb, h.hv.go hb, h.hG.go hb, h.len, fun q b m c e => by
    obtain ⟨h1, ⟨cs, fz, h2⟩, h3, h4⟩ := h.rows q b m c e
    exact ⟨h1, ⟨cs, fz, row_on h2 hb⟩, fun s hs => (hb.cell (p := ⟨b, s, none⟩) (lt_some h2)).trans (h3 s hs), h4⟩,
   fun t g l ht e => ⟨(h.left t g l ht e).1.on hb, (h.left t g l ht e).2⟩, bl_go h.bl h.bB hb, h.bB, Nat.le_trans h.b2 hb.size, h.vb⟩

set_option maxRecDepth 100000 in
theorem P2.appX {u wr w' : World} {B B2 : Nat} {G : List (Option (Nat × List Int))} {i n kx kh : Nat} {x x' vG v : Value} {H : List (Nat × Nat × Nat)} (h : P2 u wr B B2 G i n kx kh x vG v H)
    (ho : OwnB w' B x' (rp (n + kx) ((i : Int) + 1) ++ [(i : Int) + 1])) (ha : (x'.ownBlock = x.ownBlock ∧ wr.grownBy w' x.ownBlock) ∨ (Below wr.heap.size wr w' ∧ ∀ k, x'.ownBlock = some k → wr.heap.size ≤ k)) : P2 u w' B B2 G i n (kx + 1) kh x' vG v H := by
  rw [rp_snoc] at ho
  have ho' : OwnB w' B x' (rp (n + (kx + 1)) ((i : Int) + 1)) := ho
  rcases ha with ⟨e, hg⟩ | ⟨hb, hf⟩
  · refine ⟨ho', rowS_far h.hv h.hx hg, rowS_far h.hG h.hx hg, h.len, fun q b m c eq => ?_, fun t g l ht eq => ?_, grown_bl h.bl h.hx h.bB hg, h.bB, Nat.le_trans h.b2 hg.size, h.vb⟩
    · obtain ⟨h1, ⟨cs, fz, h2⟩, h3, h4⟩ := h.rows q b m c eq
      by_cases hbx : some b = x.ownBlock
      · obtain ⟨hq, hm⟩ := h4 hbx
        have hbx' : some b = x'.ownBlock := by rw [e]; exact hbx
        refine ⟨h1, (ho'.block hbx').1, fun s hs => ?_, fun _ => ⟨hq, by omega⟩⟩
        rw [hq]
        exact ho'.at5 hbx' s (by omega)
      · have hblk := hg.block b (lt_some h2) hbx
        exact ⟨h1, ⟨cs, fz, hblk.trans h2⟩, fun s hs => (World.cell?_of_block (w := wr) (a := ⟨b, s, none⟩) hblk).trans (h3 s hs), fun hx' => absurd (by rw [← e]; exact hx') hbx⟩
    · obtain ⟨h1, h2, h3⟩ := h.left t g l ht eq
      exact ⟨(hg.block g (lt_some h1) h2).trans h1, by rw [e]; exact h2, h3⟩
  · have h' := h.on hb
    refine ⟨ho', h'.hv, h'.hG, h.len, fun q b m c eq => ?_, fun t g l ht eq => ?_, h'.bl, h.bB, h'.b2, h.vb⟩
    · obtain ⟨h1, h2, h3, _⟩ := h'.rows q b m c eq
      obtain ⟨_, ⟨cs, fz, k2⟩, _, _⟩ := h.rows q b m c eq
      refine ⟨h1, h2, h3, fun hx' => ?_⟩
      have := hf b hx'.symm
      have := lt_some k2
      omega
    · obtain ⟨h1, _, h3⟩ := h'.left t g l ht eq
      obtain ⟨k1, _, _⟩ := h.left t g l ht eq
      refine ⟨h1, fun hx' => ?_, h3⟩
      have := hf g hx'.symm
      have := lt_some k1
      omega

set_option maxRecDepth 100000 in
theorem get_snoc {α : Type} {L : List α} {y z : α} {t : Nat} (e : (L ++ [y])[t]? = some z) : L[t]? = some z ∨ t = L.length ∧ z = y := by
  by_cases ht : t < L.length
  · rw [List.getElem?_append_left ht] at e; exact .inl e
  · rw [List.getElem?_append_right (by omega)] at e
    by_cases ht2 : t - L.length = 0
    · rw [ht2] at e
      simp at e
      exact .inr ⟨by omega, e.symm⟩
    · rw [List.getElem?_eq_none (by simp; omega)] at e
      cases e

set_option maxRecDepth 100000 in
theorem P2.appG {u wr w' : World} {B B2 : Nat} {G : List (Option (Nat × List Int))} {i n kx kh : Nat} {x vG vG' v : Value} {H : List (Nat × Nat × Nat)} (h : P2 u wr B B2 G i n kx kh x vG v H) (hkh : kh < 16) (hkx : n + kx ≤ 70000)
    {b c : Nat} (ex : x = .slice (some ⟨b, 0, none⟩) (n + kx) c) (ho : OwnH w' B2 vG' (H ++ [(b, n + kx, c)])) (hg : wr.grownBy w' vG.ownBlock) (hBB : B ≤ B2) : P2 u w' B B2 G i n kx (kh + 1) x vG' v (H ++ [(b, n + kx, c)]) := by
  have hxb : some b = x.ownBlock := by rw [ex]; rfl
  obtain ⟨⟨cs0, fz0, hb0⟩, cap0, ex0, hcap0⟩ := h.hx.block hxb
  have hcc : n + kx ≤ c := by
    rw [ex] at ex0
    injection ex0 with _ _ e3
    rw [rp_length] at hcap0
    omega
  have hx' : OwnB w' B x (rp (n + kx) ((i : Int) + 1)) := by
    refine World.ownsRow.kept h.hx hg (.inr ?_)
    rw [← hxb]
    exact ownH_ne h.hG hb0 u8_neS
  have vGlt : ∀ k, vG.ownBlock = some k → B2 ≤ k := fun k hk => (World.ownsRow.lt h.hG k hk).1
  have hv' : OwnS w' B v G := by
    refine World.ownsRow.kept h.hv hg ?_
    cases hvb : v.ownBlock with
    | none => exact .inl rfl
    | some gs =>
      refine .inr fun e => ?_
      have h1 := h.vb gs hvb
      have h2 := vGlt gs e.symm
      omega
  refine ⟨hx', hv', ho, by rw [List.length_append, h.len]; rfl, fun q b' m c' eq => ?_, fun t g l ht eq => ?_, h.bl.trans ((Below.refl _ _).grown hg (Nat.le_trans h.bB h.bl.size) fun k hk => Nat.le_trans hBB (vGlt k hk)), h.bB, Nat.le_trans h.b2 hg.size, h.vb⟩
  · rcases get_snoc eq with eq | ⟨hq, eq⟩
    · obtain ⟨h1, ⟨cs, fz, h2⟩, h3, h4⟩ := h.rows q b' m c' eq
      have hblk := hg.block b' (lt_some h2) (ownH_ne h.hG h2 u8_neS)
      exact ⟨h1, ⟨cs, fz, hblk.trans h2⟩, fun s hs => (World.cell?_of_block (w := wr) (a := ⟨b', s, none⟩) hblk).trans (h3 s hs), h4⟩
    · injection eq with e1 e2
      injection e2 with e2 e3
      subst e1 e2 e3
      have hq16 : q / 16 = i := by rw [hq, h.len]; omega
      refine ⟨⟨hcc, hkx⟩, (hx'.block hxb).1, fun s hs => ?_, fun _ => ⟨hq16, Nat.le_refl _⟩⟩
      rw [hq16]
      exact hx'.at5 hxb s hs
  · obtain ⟨h1, h2, h3⟩ := h.left t g l ht eq
    have hblk := hg.block g (lt_some h1) (ownH_ne h.hG h1 u8_neS)
    refine ⟨hblk.trans h1, h2, fun q b' m c' e => ?_⟩
    rcases get_snoc e with e | ⟨_, e⟩
    · exact h3 q b' m c' e
    · injection e with e1 _
      rw [e1]
      intro e2
      exact h2 (by rw [← e2]; exact hxb)

/-- Between two answers. -/
structure Q2 (u wr : World) (B B2 : Nat) (G : List (Option (Nat × List Int))) (i : Nat) (vG v : Value) (H : List (Nat × Nat × Nat)) : Prop where
  hv : OwnS wr B v G
  hG : OwnH wr B2 vG H
  len : H.length = 16 * i
  rows : ∀ (q b m c : Nat), H[q]? = some (b, m, c) → (m ≤ c ∧ m ≤ 70000) ∧ (∃ cs fz, wr.heap[b]? = some (.cells cs 5 fz)) ∧ (∀ s, s < m → wr.cell? ⟨b, s, none⟩ = some (.int .u8 (((q / 16 : Nat) : Int) + 1)))
  left : ∀ (t g : Nat) (l : List Int), i ≤ t → G[t]? = some (some (g, l)) → Bk wr g (rp l.length ((t : Int) + 1)) ∧ ∀ (q b m c : Nat), H[q]? = some (b, m, c) → b ≠ g
  bl : Below B u wr
  bB : B ≤ u.heap.size
  b2 : B2 ≤ wr.heap.size
  vb : ∀ gs, v.ownBlock = some gs → gs < B2
set_option maxRecDepth 100000 in
theorem P2.out {u wr : World} {B B2 : Nat} {G : List (Option (Nat × List Int))} {i n : Nat} {x vG v : Value} {H : List (Nat × Nat × Nat)} (h : P2 u wr B B2 G i n 16 16 x vG v H) : Q2 u wr B B2 G (i + 1) vG v H :=
  ⟨h.hv, h.hG, by rw [h.len]; omega, fun q b m c e => by obtain ⟨h1, h2, h3, _⟩ := h.rows q b m c e; exact ⟨h1, h2, h3⟩, fun t g l ht e => by obtain ⟨h1, _, h3⟩ := h.left t g l (by omega) e; exact ⟨h1, h3⟩, h.bl, h.bB, h.b2, h.vb⟩
set_option maxRecDepth 100000 in
theorem Q2.into {u wr u0 : World} {B B2 : Nat} {G : List (Option (Nat × List Int))} {i : Nat} {vG v : Value} {H : List (Nat × Nat × Nat)} (h : Q2 u wr B B2 G i vG v H) (hGt : Gt u0 B G) (y : Option (Nat × List Int)) (hy : G[i]? = some y) :
    ∃ n, n ≤ 65536 ∧ P2 u wr B B2 G i n 0 0 (gV y) vG v H := by
  cases y with
  | none => exact ⟨0, by omega, OwnB.nil _ _, h.hv, h.hG, h.len, fun q b m c e => by obtain ⟨h1, h2, h3⟩ := h.rows q b m c e; exact ⟨h1, h2, h3, fun hx => by cases hx⟩, fun t g l ht e => by obtain ⟨h1, h3⟩ := h.left t g l (by omega) e; exact ⟨h1, (fun hx => by cases hx), h3⟩, h.bl, h.bB, h.b2, h.vb⟩
  | some p =>
    obtain ⟨g, l⟩ := p
    obtain ⟨hb, hne⟩ := h.left i g l (Nat.le_refl _) hy
    obtain ⟨_, hBg, _, hl⟩ := hGt.rows i g l hy
    refine ⟨l.length, hl, ?_, h.hv, h.hG, h.len, fun q b m c e => ?_, fun t g' l' ht e => ?_, h.bl, h.bB, h.b2, h.vb⟩
    · have := own_of_heap (l := rp l.length ((i : Int) + 1)) hb hBg (by rw [rp_length]; unfold maxLen; omega)
      rw [rp_length] at this
      exact this
    · obtain ⟨h1, h2, h3⟩ := h.rows q b m c e
      refine ⟨h1, h2, h3, fun hx => ?_⟩
      injection hx with hx
      exact absurd hx (hne q b m c e)
    · obtain ⟨h1, h3⟩ := h.left t g' l' (by omega) e
      refine ⟨h1, fun hx => ?_, h3⟩
      injection hx with hx
      have h4 : g' = g := hx
      have := hGt.ne i t g g' l l' hy e ht
      omega
end Go.Proofs.YtoifjcliepongaaDoor
