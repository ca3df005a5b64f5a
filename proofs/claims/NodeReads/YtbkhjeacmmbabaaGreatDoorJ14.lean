import Derived.Test.YtbkhjeacmmbabaaGreatDoorJ13
namespace Go.Proofs.YtbkhjeacmmbabaaGreatDoor
set_option maxRecDepth 100000
open Go.RowKit
theorem zck (l : List Int) (p d : Nat) (h : p + d ≤ l.length) : pNum d (l.drop p) = some (rdN l p d, l.drop (p + d)) := by
 unfold pNum
 rw [if_neg (by rw [zK]; omega), List.drop_drop]
 rfl
theorem zcz (l : List Int) (p d : Nat) (h : l.length < p + d) (hd : 0 < d) : pNum d (l.drop p) = none := by
 unfold pNum
 rw [if_pos (by rw [zK]; omega)]
theorem pText_at (l : List Int) (p m : Nat) (hm : rdN l p 2 = m) (h : p + 2 + m ≤ l.length) : zao (l.drop p) = some ((l.drop (p + 2)).take m, l.drop (p + 2 + m)) := by
 unfold zao
 rw [zck l p 2 zq, hm]
 simp only
 rw [if_neg (by rw [zK]; omega), Int.toNat_natCast, List.drop_drop]
theorem pText_off (l : List Int) (p m : Nat) (hm : rdN l p 2 = m) (h : l.length < p + 2 + m) : zao (l.drop p) = none := by
 unfold zao
 by_cases h2 : p + 2 ≤ l.length
 ·rw [zck l p 2 h2, hm]
  simp only
  rw [if_pos (by rw [zK]; omega)]
 ·rw [zcz l p 2 zq zq]
theorem pCell_few (l : List Int) (p : Nat) (h : l.length < p + 3) : zaj (l.drop p) = none := by
 unfold zaj
 by_cases h1 : p + 1 ≤ l.length
 ·rw [zck l p 1 h1]
  simp only
  have : zao (l.drop (p + 1)) = none := by
   unfold zao
   rw [zcz l (p + 1) 2 zq zq]
  rw [this]
 ·rw [zcz l p 1 zq zq]
theorem pCell_short (l : List Int) (p M : Nat) (hM : rdN l (p + 1) 2 = M) (h3 : p + 3 ≤ l.length) (h : l.length < p + 3 + M + 2) : zaj (l.drop p) = none := by
 unfold zaj
 rw [zck l p 1 zq]
 simp only
 by_cases hk : p + 1 + 2 + M ≤ l.length
 ·rw [pText_at l (p + 1) M hM hk]
  simp only
  split
  ·have : zao (l.drop (p + 1 + 2 + M)) = none := by
    unfold zao
    rw [zcz l (p + 1 + 2 + M) 2 zq zq]
   rw [this]
  ·rw [zcz l (p + 1 + 2 + M) 4 zq zq]
 ·rw [pText_off l (p + 1) M hM zq]
theorem pCell_val (l : List Int) (p M m : Nat) (hM : rdN l (p + 1) 2 = M) (hk : rdN l p 1 = 1) (hm : rdN l (p + 3 + M) 2 = m) (h : p + 3 + M + 2 ≤ l.length) :
  (l.length < p + 3 + M + 2 + m → zaj (l.drop p) = none) ∧ (p + 3 + M + 2 + m ≤ l.length → ∃ r, zaj (l.drop p) = some (⟨(l.drop (p + 3)).take M, 1, (l.drop (p + 3 + M + 2)).take m, 0, 0⟩, r)) := by
 have e : zaj (l.drop p) = match zao (l.drop (p + 3 + M)) with | none => none | some (val, r) => some (⟨(l.drop (p + 3)).take M, 1, val, 0, 0⟩, r) := by
  unfold zaj
  rw [zck l p 1 zq, hk]
  simp only
  have ht : zao (l.drop (p + 1)) = some ((l.drop (p + 3)).take M, l.drop (p + 3 + M)) := pText_at l (p + 1) M hM zq
  rw [ht]
  simp only [if_true]
  cases zao (l.drop (p + 3 + M)) with
  | none => rfl
  | some q => rfl
 refine ⟨fun hh => ?_, fun hh => ?_⟩
 ·rw [e, pText_off l _ m hm hh]
 ·rw [e, pText_at l _ m hm hh]
  exact ⟨_, rfl⟩
theorem pCell_num (l : List Int) (p M : Nat) (hM : rdN l (p + 1) 2 = M) (hk : rdN l p 1 ≠ 1) (h : p + 3 + M + 2 ≤ l.length) :
  (l.length < p + 3 + M + 8 → zaj (l.drop p) = none) ∧ (p + 3 + M + 8 ≤ l.length → ∃ r, zaj (l.drop p) = some (⟨(l.drop (p + 3)).take M, rdN l p 1, [], rdN l (p + 3 + M) 4, rdN l (p + 3 + M + 4) 4⟩, r)) := by
 have e : zaj (l.drop p) = match pNum 4 (l.drop (p + 3 + M)) with | none => none | some (a, r) => match pNum 4 r with | none => none | some (c, r) => some (⟨(l.drop (p + 3)).take M, rdN l p 1, [], a, c⟩, r) := by
  unfold zaj
  rw [zck l p 1 zq]
  simp only
  have ht : zao (l.drop (p + 1)) = some ((l.drop (p + 3)).take M, l.drop (p + 3 + M)) := pText_at l (p + 1) M hM zq
  rw [ht]
  simp only [if_neg hk]
  cases pNum 4 (l.drop (p + 3 + M)) with
  | none => rfl
  | some q =>
   obtain ⟨a, r⟩ := q
   simp only
   cases pNum 4 r with
   | none => rfl
   | some q => rfl
 refine ⟨fun hh => ?_, fun hh => ?_⟩
 ·rw [e]
  by_cases h4 : p + 3 + M + 4 ≤ l.length
  ·rw [zck l _ 4 h4]
   simp only
   rw [zcz l _ 4 zq zq]
  ·rw [zcz l _ 4 zq zq]
 ·rw [e, zck l _ 4 zq]
  simp only
  rw [zck l _ 4 zq]
  exact ⟨_, rfl⟩
theorem rdN_one (l : List Int) (p : Nat) (h : p < l.length) : rdN l p 1 = l.getD p 0 := by
 unfold rdN
 rw [List.drop_eq_getElem_cons h]
 have : rdB (List.take 1 (l[p] :: List.drop (p + 1) l)) = 0 * 256 + l[p] := rfl
 rw [this]
 simp [List.getD, h]
theorem Gr.cf {w w' : World} {v v' : Value} (h : Gr w v w' v') : Cf (fun k => v.ownBlock = some k) w w' := ⟨h.grow.os, h.grow.tape, h.grow.output, h.grow.size, fun k hk hf => h.grow.block k hk (fun e => hf e.symm)⟩
theorem Cf.wide {F G : Nat → Prop} {a b : World} (h : Cf F a b) (hg : ∀ k, F k → G k) : Cf G a b := ⟨h.os, h.tape, h.output, h.size, fun k hk hf => h.block k hk (fun e => hf (hg k e))⟩
theorem OwnB.cfX {w w' : World} {B : Nat} {v : Value} {l : List Int} {F : Nat → Prop} (h : OwnB w B v l) (hc : Cf F w w') (hf : ∀ k, v.ownBlock = some k → ¬ F k) : OwnB w' B v l := by
 unfold OwnB at *
 rcases h.2 with h2 | ⟨g, cap, cur, e, hg, hh, rest⟩
 ·exact ⟨h.1, .inl h2⟩
 ·refine ⟨h.1, .inr ⟨g, cap, cur, e, hg, ?_, rest⟩⟩
  rw [hc.block g (zaf hh) (hf g (by rw [e]; rfl))]
  exact hh
theorem OwnB.sl2 {w : World} {B : Nat} {ao : Option Addr} {n c : Nat} {l : List Int} (h : OwnB w B (.slice ao n c) l) (hw : Wf l) (hl : l.length ≤ 140737488355328) : Sl w ao n c l := by
 obtain ⟨ao', c', e, hs, _⟩ := h.sl hw hl
 injection e with e1 e2 e3
 subst e1 e3
 rw [← e2] at hs
 exact hs
theorem OwnB.blk {w : World} {B : Nat} {v : Value} {l : List Int} (h : OwnB w B v l) {k : Nat} (hk : v.ownBlock = some k) : B ≤ k ∧ k < w.heap.size := by
 unfold OwnB at h
 exact h.lt k hk
def CatTo (l : List Int) (p : Nat) (w : World) (e : Ending) (w' : World) : Prop :=
 ∃ (ko : Option Addr) (kn kc : Nat) (kd : Int) (vo : Option Addr) (vn vc : Nat) (pg ct : Int) (ok : Bool), e = .returned (.tuple #[.agg #[.slice ko kn kc, .int .i64 kd, .slice vo vn vc, .int .i64 pg, .int .i64 ct], .bool ok]) ∧ Hid (Below w.heap.size w w') ∧
  Hid ((ok = false ∧ zaj (l.drop p) = none) ∨ (ok = true ∧ ∃ key val r, zaj (l.drop p) = some (⟨key, kd, val, pg, ct⟩, r) ∧ OwnB w' w.heap.size (.slice ko kn kc) key ∧ OwnB w' w.heap.size (.slice vo vn vc) val))
theorem two_box (w : World) (y0 y1 y2 y3 y4 : Value) :
  C5 ((w.alloc (.cells #[.slice none 0 0, .int .i64 0, .slice none 0 0, .int .i64 0, .int .i64 0] 50)).alloc (.cells #[y0, y1, y2, y3, y4] 50)) w.heap.size (.slice none 0 0) (.int .i64 0) (.slice none 0 0) (.int .i64 0) (.int .i64 0) ∧ C5 ((w.alloc (.cells #[.slice none 0 0, .int .i64 0, .slice none 0 0, .int .i64 0, .int .i64 0] 50)).alloc (.cells #[y0, y1, y2, y3, y4] 50)) (w.heap.size + 1) y0 y1 y2 y3 y4 ∧ Below w.heap.size w ((w.alloc (.cells #[.slice none 0 0, .int .i64 0, .slice none 0 0, .int .i64 0, .int .i64 0] 50)).alloc (.cells #[y0, y1, y2, y3, y4] 50)) := by
 obtain ⟨y, hy⟩ : ∃ y, w.alloc (.cells #[.slice none 0 0, .int .i64 0, .slice none 0 0, .int .i64 0, .int .i64 0] 50) = y := ⟨_, rfl⟩
 have hz : y.heap.size = w.heap.size + 1 := by rw [← hy]; simp
 have h1 : C5 y w.heap.size (.slice none 0 0) (.int .i64 0) (.slice none 0 0) (.int .i64 0) (.int .i64 0) := by rw [← hy]; exact C5.box w _ _ _ _ _
 have B : Below w.heap.size w y := by rw [← hy]; exact zab Br Lr _
 rw [hy]
 have h2 := C5.box y y0 y1 y2 y3 y4
 rw [hz] at h2
 have A : Below y.heap.size y (y.alloc (.cells #[y0, y1, y2, y3, y4] 50)) := zab Br Lr _
 exact ⟨zag h1 A, h2, zae B Lr A⟩
theorem own_slice6m {w : World} {B m : Nat} {v : Value} {l : List Int} (h : OwnB w B v ([] ++ l)) (hl : l.length = m) : ∃ ao c, v = .slice ao m c ∧ Hid (OwnB w B (.slice ao m c) l) := by
 rw [List.nil_append] at h
 obtain ⟨ao, c, rfl⟩ := zbr h
 subst hl
 exact ⟨ao, c, rfl, zaa h⟩
theorem apt_none (u : Value) : Apt u (.slice none 0 0) := by
 unfold Apt
 cases h : u.ownBlock with
 | none => exact .inl rfl
 | some z => exact .inr zsv
theorem wrap64n (t : Nat) (h : t ≤ 140737488355328) : IntKind.i64.wrap (t : Int) = (t : Int) := by
 unfold IntKind.wrap
 simp [IntKind.bits, IntKind.signed]
 omega
set_option maxHeartbeats 4000000 in
theorem cellAt_any (ao : Option Addr) (n cap : Nat) (l : List Int) (p : Nat) (w : World) (hs : Sl w ao n cap l) (hp : p ≤ 65536) :
  Calls Tryz.prog 53 #[.slice ao n cap, .int .i64 (p : Int)] w fun e w' => CatTo l p w e w' := by
 obtain ⟨k, hk⟩ : ∃ k, w.heap.size = k := ⟨_, rfl⟩
 have hn := hs.hroom
 have G9 := hs.hcap
 have D := zaa hs.hlen
 have HS := zaa hs
 have H0 : (p : Int) ≤ 65536 := zq
 obtain ⟨s, P⟩ : ∃ s, p + 3 = s := ⟨_, rfl⟩
 have H2 : (p : Int) + 3 = (s : Int) := zq
 have L := zaa P
 by_cases h3 : n < s
 ·have F0 : (n : Int) < (s : Int) := zq
  have F1 : Hid (Below w.heap.size w (w.alloc (.cells #[.slice none 0 0, .int .i64 0, .slice none 0 0, .int .i64 0, .int .i64 0] 50))) := zaa (zab Br Lr _)
  have F2 : Hid (C5 (w.alloc (.cells #[.slice none 0 0, .int .i64 0, .slice none 0 0, .int .i64 0, .int .i64 0] 50)) k (.slice none 0 0) (.int .i64 0) (.slice none 0 0) (.int .i64 0) (.int .i64 0)) := zaa (by rw [← hk]; exact C5.box w _ _ _ _ _)
  have HN : Hid (zaj (l.drop p) = none) := zaa (pCell_few l p (by rw [D.out]; omega))
  clear hs P
  go_enter Tryz.func53, Tryz.ntmps53
  go_wp2
  refine bodyPost_ret (zcy rfl _ _ k 50 #[.slice none 0 0, .int .i64 0, .slice none 0 0, .int .i64 0, .int .i64 0] (0, 0) _ (.bool false) zr zr F2.out Tryz.underlying50 rfl zal) rfl ?_
  exact ⟨none, 0, 0, 0, none, 0, 0, 0, 0, false, rfl, F1, zaa (.inl ⟨rfl, HN.out⟩)⟩
 ·have F0 : ¬ (n : Int) < (s : Int) := zq
  obtain ⟨g, off, rfl, C8, C9⟩ : ∃ g off, ao = some ⟨g, off, none⟩ ∧ g < w.heap.size ∧ ∀ i, i < n → w.cell? ⟨g, off + i, none⟩ = some (.int .u8 (l.getD i 0)) := by
   rcases hs.hat with h0 | h0
   ·omega
   ·exact h0
  have H3 : (p : Int) < (n : Int) := zq
  have b0 : (w.alloc (.cells #[.slice none 0 0, .int .i64 0, .slice none 0 0, .int .i64 0, .int .i64 0] 50)).cell? ⟨g, off + p, none⟩ = some (.int .u8 (l.getD p 0)) := ((zab (Below.refl w.heap.size w) Lr _).cell (p := ⟨g, off + p, none⟩) C8).trans (C9 p zq)
  have HX : Hid (rdN l p 1 = l.getD p 0) := zaa (rdN_one l p (by rw [D.out]; omega))
  have D0 : 0 ≤ l.getD p 0 ∧ l.getD p 0 ≤ 255 := by
   have := zbk l hs.wf p 1
   rw [HX.out] at this
   simp at this
   simp
   omega
  obtain ⟨x, hx⟩ : ∃ x, l.getD p 0 = x := ⟨_, rfl⟩
  rw [hx] at b0 HX D0
  obtain ⟨H4, H5⟩ := D0
  have A9 := zbk l hs.wf (p + 1) 2
  obtain ⟨M, hM⟩ := Int.eq_ofNat_of_zero_le A9.1
  have H6 : (M : Int) < 65536 := by have := A9.2; rw [hM] at this; simpa using this
  have HM : Hid (rdN l (p + 1) 2 = (M : Int)) := zaa hM
  have D3 : Hid (∀ u, Below k w u → Calls Tryz.prog 52 #[.slice (some ⟨g, off, none⟩) n cap, .int .i64 ((p : Int) + 1), .int .i64 2] u fun e w' => e = .returned (.int .i64 (M : Int)) ∧ Hid (w' = u)) := zaa (fun u hu => by
   have h := rnumb6_any (some ⟨g, off, none⟩) n cap l ((p : Int) + 1) 2 u (HS.out.on (by rw [hk]; exact Lr) hu) zq zq (.inl rfl)
   rw [show ((p : Int) + 1).toNat = p + 1 by omega, show (2 : Int).toNat = 2 from rfl, HM.out] at h
   exact h.mono (fun e w' hh => ⟨hh.1, zaa hh.2⟩))
  have TB := two_box w (.slice none 0 0) (.int .i64 x) (.slice none 0 0) (.int .i64 0) (.int .i64 0)
  rw [hk] at TB
  have B0 := zaa TB
  obtain ⟨t, A0⟩ : ∃ t, s + M = t := ⟨_, rfl⟩
  have H7 : (s : Int) + (M : Int) = (t : Int) := zq
  have A1 := zaa A0
  clear hs C9 hM A9 TB hx C8 P A0
  go_enter Tryz.func53, Tryz.ntmps53
  go_wp2_with (go_at_call 52; refine (D3.out _ ?_).mono ?_; exact B0.out.2.2; rintro e w1 ⟨rfl, D4⟩; refine Hid.out ?_)
  apply zaa
  have H1 : Hid (C5 w1 k (.slice none 0 0) (.int .i64 0) (.slice none 0 0) (.int .i64 0) (.int .i64 0) ∧ C5 w1 (k + 1) (.slice none 0 0) (.int .i64 x) (.slice none 0 0) (.int .i64 0) (.int .i64 0) ∧ Below k w w1) := zaa (by rw [D4.out]; exact B0.out)
  clear D4 B0 D3 b0
  have F3 : k + 2 ≤ w1.heap.size := by have := zaf H1.out.2.1; omega
  have C6 := And.intro L.out A1.out
  by_cases h5 : n < t + 2
  ·have D5 : (n : Int) < (t : Int) + 2 := zq
   have HN : Hid (zaj (l.drop p) = none) := zaa (pCell_short l p M HM.out (by rw [D.out]; have := L.out; omega) (by rw [D.out]; have := L.out; have := A1.out; omega))
   clear C6
   obtain ⟨c0, c1, c2, c3, c4⟩ := H1.out.1.cells
   obtain ⟨f0, f1, f2, f3, f4⟩ := H1.out.1.free
   go_wp2
   refine bodyPost_ret (zcy rfl _ _ k 50 #[.slice none 0 0, .int .i64 0, .slice none 0 0, .int .i64 0, .int .i64 0] (0, 0) _ (.bool false) zr zr (H1.out.1.put _ _ _ _ _) Tryz.underlying50 rfl zal) rfl ?_
   have hf := zaq w1 k (.slice none 0 0) (.int .i64 0) (.slice none 0 0) (.int .i64 0) (.int .i64 0)
   exact ⟨none, 0, 0, 0, none, 0, 0, 0, 0, false, rfl, zaa (by rw [hk]; exact H1.out.2.2.trans (hf.below zq (fun j hj e => zq))), zaa (.inl ⟨rfl, HN.out⟩)⟩
  ·have D5 : ¬ (n : Int) < (t : Int) + 2 := zq
   have P := L.out
   have A0 := A1.out
   have D7 : Hid (∀ u, Below k w u → Sl u (some ⟨g, off + s, none⟩) (t - s) (cap - s) ((l.drop s).take M)) := zaa (fun u hu => by
    have h := (HS.out.on (by rw [hk]; exact Lr) hu).piece s M (cap - s) zq zq
    rw [show M = t - s by omega] at h ⊢
    exact h)
   have t1 : s ≤ t := zq
   have t3 : t ≤ cap := zq
   have t4 : (s : Int) ≤ (t : Int) := zq
   have t5 : (t : Int) ≤ (cap : Int) := zq
   have t6 : ¬ cap = s := zq
   have t7 : s < cap := zq
   have t8 : ¬ cap - s = 0 := zq
   have B1 := wrap64n t zq
   have HH : Hid (k ≤ w1.heap.size) := zaa zq
   have D8 : Hid (t - s ≤ 140737488355328) := zaa zq
   clear P A0 C6
   obtain ⟨c0, c1, c2, c3, c4⟩ := H1.out.2.1.cells
   go_wp2_with fail
   have F4 : Hid (((l.drop s).take M).length = M) := zaa (by rw [zJ, zK, D.out]; omega)
   go_region_law (first
    | (refine step_sl rfl _ _ rfl k [] ((l.drop s).take M) (.slice none 0 0) (some ⟨g, off + s, none⟩) (t - s) (cap - s) rfl rfl (OwnB.nil _ _) (D7.out _ (H1.out.2.2.trans (by (repeat (first | exact Br | apply Below.drew | apply below_drewN))))) (by simpa using D8.out) (by exact HH.out) ?_; intro v2 w2 ho hg; obtain ⟨f0, _⟩ := (C5.gr (w := w1.drew) (v := .slice none 0 0) H1.out.2.1 hg zsv).free; obtain ⟨e0, _⟩ := (C5.gr (w := w1.drew) (v := .slice none 0 0) H1.out.2.1 hg zsv).cells; obtain ⟨ko, kc, rfl, B2⟩ := own_slice6m ho F4.out; have A2 := zaa hg; clear ho hg))
   all_goals
    have A3 : Hid (C5 w2 (k + 1) (.slice none 0 0) (.int .i64 x) (.slice none 0 0) (.int .i64 0) (.int .i64 0)) := zaa (C5.gr (w := w1.drew) (v := .slice none 0 0) H1.out.2.1 A2.out zsv)
    have D9 : Hid (C5 w2 k (.slice none 0 0) (.int .i64 0) (.slice none 0 0) (.int .i64 0) (.int .i64 0)) := zaa (C5.gr (w := w1.drew) (v := .slice none 0 0) H1.out.1 A2.out zsv)
    have E0 : Hid (Below k w w2) := zaa ((Below.drew H1.out.2.2).trans (A2.out.below (OwnB.nil w1.drew k) HH.out))
    have B3 : Hid (k + 2 ≤ w2.heap.size) := zaa (by have := zaf A3.out; omega)
    obtain ⟨w3, A4⟩ : ∃ w3, w2.setCell ⟨k + 1, 0, none⟩ (.slice ko M kc) = w3 := ⟨_, rfl⟩
    have B : Cf (· = k + 1) w2 w3 := by rw [← A4]; exact Cf.set _ _ _ _
    have E : Hid (C5 w3 (k + 1) (.slice ko M kc) (.int .i64 x) (.slice none 0 0) (.int .i64 0) (.int .i64 0)) := zaa (by rw [← A4]; exact (A3.out.set _).1)
    have G : Hid (C5 w3 k (.slice none 0 0) (.int .i64 0) (.slice none 0 0) (.int .i64 0) (.int .i64 0)) := zaa (D9.out.cf B zq)
    have J : Hid (Below k w w3) := zaa (E0.out.trans (B.below (by have := B3.out; omega) (fun j hj e => zq)))
    have A5 : Hid (OwnB w3 k (.slice ko M kc) ((l.drop s).take M)) := zaa (B2.out.cfX B (fun j hj e => (B2.out.apart5 A3.out) (by rw [hj, e])))
    have B4 : Hid (k + 2 ≤ w3.heap.size) := zaa (zN B3.out B.size)
    rw [A4]
    clear A4 B A3 D9 E0 B3 B2 A2 f0 e0 c0 c1 c2 c3 c4 H1 F3 D7 D8 HH t1 t3 t4 t5 t6 t7 t8 B1
    have B5 : Hid (∀ (u : World) (j d : Int), Below k w u → 0 ≤ j → j + d ≤ n → (d = 2 ∨ d = 4) → Calls Tryz.prog 52 #[.slice (some ⟨g, off, none⟩) n cap, .int .i64 j, .int .i64 d] u fun e w' => e = .returned (.int .i64 (rdN l j.toNat d.toNat)) ∧ Hid (w' = u)) := zaa (fun u j d hu h0 h1 h2 => (rnumb6_any (some ⟨g, off, none⟩) n cap l j d u (HS.out.on (by rw [hk]; exact Lr) hu) h0 h1 h2).mono (fun e w' hh => ⟨hh.1, zaa hh.2⟩))
    have Q : Hid (p + 3 + M = t) := zaa (by have := L.out; have := A1.out; omega)
    have Y : Hid (∀ (u : World) (vo : Option Addr) (vn vc : Nat) (pg ct : Int) (val r : List Int), C5 u k (.slice none 0 0) (.int .i64 0) (.slice none 0 0) (.int .i64 0) (.int .i64 0) → Below k w u → OwnB u k (.slice ko M kc) ((l.drop s).take M) → OwnB u k (.slice vo vn vc) val → k ≤ u.heap.size → zaj (l.drop p) = some (⟨(l.drop s).take M, x, val, pg, ct⟩, r) → CatTo l p w (.returned (.tuple #[.agg #[.slice ko M kc, .int .i64 x, .slice vo vn vc, .int .i64 pg, .int .i64 ct], .bool true])) (put5 u k (.slice ko M kc) (.int .i64 x) (.slice vo vn vc) (.int .i64 pg) (.int .i64 ct))) := zaa (fun u vo vn vc pg ct val r hC hB hO hV hu hp => by
     have hf := zaq u k (.slice ko M kc) (.int .i64 x) (.slice vo vn vc) (.int .i64 pg) (.int .i64 ct)
     exact ⟨ko, M, kc, x, vo, vn, vc, pg, ct, true, rfl, zaa (by rw [hk]; exact hB.trans (hf.below hu (fun j hj e => zq))), zaa (.inr ⟨rfl, _, val, r, hp, by rw [hk]; exact hO.cfX hf (fun j hj e => (hO.apart5 hC) (by rw [hj, e])), by rw [hk]; exact hV.cfX hf (fun j hj e => (hV.apart5 hC) (by rw [hj, e]))⟩)⟩)
    have C7 : Hid (∀ u : World, C5 u k (.slice none 0 0) (.int .i64 0) (.slice none 0 0) (.int .i64 0) (.int .i64 0) → Below k w u → k ≤ u.heap.size → zaj (l.drop p) = none → CatTo l p w (.returned (.tuple #[.agg #[.slice none 0 0, .int .i64 0, .slice none 0 0, .int .i64 0, .int .i64 0], .bool false])) (put5 u k (.slice none 0 0) (.int .i64 0) (.slice none 0 0) (.int .i64 0) (.int .i64 0))) := zaa (fun u hC hB hu hp => by
     have hf := zaq u k (.slice none 0 0) (.int .i64 0) (.slice none 0 0) (.int .i64 0) (.int .i64 0)
     exact ⟨none, 0, 0, 0, none, 0, 0, 0, 0, false, rfl, zaa (by rw [hk]; exact hB.trans (hf.below hu (fun j hj e => zq))), zaa (.inl ⟨rfl, hp⟩)⟩)
    have H8 : t + 2 ≤ n := zq
    have H9 : (s : Int) ≤ 65539 := zq
    have I0 : (t : Int) ≤ 140737488355328 := zq
    clear h5 D5
    by_cases hx : x = 1
    ·have F5 : (x == 1) = true := by simpa using hx
     have B6 : Hid (rdN l p 1 = 1) := zaa (by rw [HX.out]; exact hx)
     have F6 := zaa hx
     have B7 := zbk l HS.out.wf t 2
     obtain ⟨m, hm⟩ := Int.eq_ofNat_of_zero_le B7.1
     have I1 : (m : Int) < 65536 := by have := B7.2; rw [hm] at this; simpa using this
     have A6 := zaa (pCell_val l p M m HM.out B6.out (by rw [Q.out]; exact hm) (by rw [D.out]; have := Q.out; omega))
     rw [Q.out, L.out, D.out] at A6
     have hA := B5.out w3 (t : Int) 2 J.out zq zq (.inl rfl)
     rw [show ((t : Int)).toNat = t by omega, show (2 : Int).toNat = 2 from rfl, hm] at hA
     have HA := zaa hA
     clear hx B7 hm hA
     obtain ⟨c0, c1, c2, c3, c4⟩ := E.out.cells
     go_wp2_with (go_at_call 52; refine HA.out.mono ?_; rintro e w4 ⟨rfl, R⟩; refine Hid.out ?_)
     apply zaa
     have F7 : w3 = w4 := R.out.symm
     subst F7
     obtain ⟨r, T⟩ : ∃ r, t + 2 = r := ⟨_, rfl⟩
     have I2 : (t : Int) + 2 = (r : Int) := zq
     obtain ⟨q, A7⟩ : ∃ q, r + m = q := ⟨_, rfl⟩
     have F8 : (r : Int) + (m : Int) = (q : Int) := zq
     have F9 := zaa T
     have G0 := zaa A7
     have I3 : r ≤ n := zq
     have O : Hid (k ≤ w3.heap.size) := zaa (by have := B4.out; omega)
     clear c0 c1 c2 c3 c4 HA R
     by_cases h6 : n < q
     ·have G1 : (n : Int) < (q : Int) := zq
      have G2 := zaa (A6.out.1 zq)
      clear T A7
      obtain ⟨d0, d1, d2, d3, d4⟩ := G.out.cells
      obtain ⟨f0, f1, f2, f3, f4⟩ := G.out.free
      go_wp2
      refine bodyPost_ret (zcy rfl _ _ k 50 #[.slice none 0 0, .int .i64 0, .slice none 0 0, .int .i64 0, .int .i64 0] (0, 0) _ (.bool false) zr zr (G.out.put _ _ _ _ _) Tryz.underlying50 rfl zal) rfl ?_
      exact C7.out w3 G.out J.out O.out G2.out
     ·have G1 : ¬ (n : Int) < (q : Int) := zq
      obtain ⟨rr, B8⟩ := A6.out.2 zq
      rw [T] at B8
      have B9 : Hid (zaj (l.drop p) = some (⟨(l.drop s).take M, x, (l.drop r).take m, 0, 0⟩, rr)) := zaa (by rw [F6.out]; exact B8)
      clear B8
      by_cases I4 : cap = r
      ·have G3 : m = 0 := zq
       subst G3
       have G4 : r = q := zq
       subst G4
       have t5 : (r : Int) ≤ (cap : Int) := zq
       have t6 : r ≤ cap := zq
       have B1 := wrap64n r zq
       rw [List.take_zero] at B9
       clear T A7 F8 A6
       have Z : Hid (([] : List Int).length = 0) := zaa rfl
       obtain ⟨c0, c1, c2, c3, c4⟩ := E.out.cells
       go_wp2_with fail
       go_region_law (first
        | (refine step_sl rfl _ _ rfl k [] ([] : List Int) (.slice none 0 0) _ _ _ rfl rfl (OwnB.nil _ _) (Sl.nil_any _ _ _ (by intro h; cases h)) zv (by exact O.out) ?_; intro v2 w5 ho hg; obtain ⟨_, _, f2, _⟩ := (C5.gr (w := w3.drew) (v := .slice none 0 0) E.out hg zsv).free; obtain ⟨_, _, e2, _⟩ := (C5.gr (w := w3.drew) (v := .slice none 0 0) E.out hg zsv).cells; obtain ⟨vo, vc, rfl, U⟩ := own_slice6m ho Z.out; have H := zaa hg; clear ho hg))
       all_goals
        have F : Hid (C5 w5 (k + 1) (.slice ko M kc) (.int .i64 x) (.slice none 0 0) (.int .i64 0) (.int .i64 0)) := zaa (C5.gr (w := w3.drew) (v := .slice none 0 0) E.out H.out zsv)
        have K : Hid (C5 w5 k (.slice none 0 0) (.int .i64 0) (.slice none 0 0) (.int .i64 0) (.int .i64 0)) := zaa (C5.gr (w := w3.drew) (v := .slice none 0 0) G.out H.out zsv)
        have V : Hid (Below k w w5) := zaa ((Below.drew J.out).trans (H.out.below (OwnB.nil w3.drew k) O.out))
        have N : Hid (OwnB w5 k (.slice ko M kc) ((l.drop s).take M)) := zaa (zcx (w := w3.drew) A5.out H.out (apt_none _))
        have B : Cf (· = k + 1) w5 (w5.setCell ⟨k + 1, 2, none⟩ (.slice vo 0 vc)) := Cf.set _ _ _ _
        have W : Hid (C5 (w5.setCell ⟨k + 1, 2, none⟩ (.slice vo 0 vc)) (k + 1) (.slice ko M kc) (.int .i64 x) (.slice vo 0 vc) (.int .i64 0) (.int .i64 0)) := zaa (F.out.set _).2.2.1
        have I : Hid (C5 (w5.setCell ⟨k + 1, 2, none⟩ (.slice vo 0 vc)) k (.slice none 0 0) (.int .i64 0) (.slice none 0 0) (.int .i64 0) (.int .i64 0)) := zaa (K.out.cf B zq)
        have C0 : Hid (Below k w (w5.setCell ⟨k + 1, 2, none⟩ (.slice vo 0 vc))) := zaa (V.out.trans (B.below (by have := zaf F.out; omega) (fun j hj e => zq)))
        have C1 : Hid (OwnB (w5.setCell ⟨k + 1, 2, none⟩ (.slice vo 0 vc)) k (.slice ko M kc) ((l.drop s).take M)) := zaa (N.out.cfX B (fun j hj e => (N.out.apart5 F.out) (by rw [hj, e])))
        have C2 : Hid (OwnB (w5.setCell ⟨k + 1, 2, none⟩ (.slice vo 0 vc)) k (.slice vo 0 vc) ([] : List Int)) := zaa (U.out.cfX B (fun j hj e => (U.out.apart5 F.out) (by rw [hj, e])))
        have C3 : Hid (k ≤ (w5.setCell ⟨k + 1, 2, none⟩ (.slice vo 0 vc)).heap.size) := zaa (by have := zaf W.out; omega)
        clear c0 c1 c2 c3 c4 f2 e2 B
        obtain ⟨g0, g1, g2, g3, g4⟩ := W.out.cells
        obtain ⟨i0, i1, i2, i3, i4⟩ := I.out.free
        obtain ⟨j0, j1, j2, j3, j4⟩ := I.out.cells
        go_wp2
        refine bodyPost_ret (zcy rfl _ _ k 50 #[.slice ko M kc, .int .i64 x, .slice vo 0 vc, .int .i64 0, .int .i64 0] (0, 0) _ (.bool true) zr zr (I.out.put _ _ _ _ _) Tryz.underlying50 rfl zal) rfl ?_
        exact Y.out _ vo 0 vc 0 0 [] rr I.out C0.out C1.out C2.out C3.out B9.out
      ·have E7 : Hid (∀ u, Below k w u → Sl u (some ⟨g, off + r, none⟩) (q - r) (cap - r) ((l.drop r).take m)) := zaa (fun u hu => by
        have h := (HS.out.on (by rw [hk]; exact Lr) hu).piece r m (cap - r) zq zq
        rw [show m = q - r by omega] at h ⊢
        exact h)
       have t1 : r ≤ q := zq
       have t3 : q ≤ cap := zq
       have t4 : (r : Int) ≤ (q : Int) := zq
       have t5 : (q : Int) ≤ (cap : Int) := zq
       have t7 : r < cap := zq
       have t8 : ¬ cap - r = 0 := zq
       have B1 := wrap64n q zq
       have E8 : Hid (q - r ≤ 140737488355328) := zaa zq
       clear T A7
       have Z : Hid (((l.drop r).take m).length = m) := zaa (by rw [zJ, zK, D.out]; have := F9.out; have := G0.out; omega)
       obtain ⟨c0, c1, c2, c3, c4⟩ := E.out.cells
       go_wp2_with fail
       go_region_law (first
        | (refine step_sl rfl _ _ rfl k [] ((l.drop r).take m) (.slice none 0 0) (some ⟨g, off + r, none⟩) (q - r) (cap - r) rfl rfl (OwnB.nil _ _) (E7.out _ (J.out.trans (by (repeat (first | exact Br | apply Below.drew | apply below_drewN))))) (by simpa using E8.out) (by exact O.out) ?_; intro v2 w5 ho hg; obtain ⟨_, _, f2, _⟩ := (C5.gr (w := w3.drew) (v := .slice none 0 0) E.out hg zsv).free; obtain ⟨_, _, e2, _⟩ := (C5.gr (w := w3.drew) (v := .slice none 0 0) E.out hg zsv).cells; obtain ⟨vo, vc, rfl, U⟩ := own_slice6m ho Z.out; have H := zaa hg; clear ho hg))
       all_goals
        have F : Hid (C5 w5 (k + 1) (.slice ko M kc) (.int .i64 x) (.slice none 0 0) (.int .i64 0) (.int .i64 0)) := zaa (C5.gr (w := w3.drew) (v := .slice none 0 0) E.out H.out zsv)
        have K : Hid (C5 w5 k (.slice none 0 0) (.int .i64 0) (.slice none 0 0) (.int .i64 0) (.int .i64 0)) := zaa (C5.gr (w := w3.drew) (v := .slice none 0 0) G.out H.out zsv)
        have V : Hid (Below k w w5) := zaa ((Below.drew J.out).trans (H.out.below (OwnB.nil w3.drew k) O.out))
        have N : Hid (OwnB w5 k (.slice ko M kc) ((l.drop s).take M)) := zaa (zcx (w := w3.drew) A5.out H.out (apt_none _))
        have B : Cf (· = k + 1) w5 (w5.setCell ⟨k + 1, 2, none⟩ (.slice vo m vc)) := Cf.set _ _ _ _
        have W : Hid (C5 (w5.setCell ⟨k + 1, 2, none⟩ (.slice vo m vc)) (k + 1) (.slice ko M kc) (.int .i64 x) (.slice vo m vc) (.int .i64 0) (.int .i64 0)) := zaa (F.out.set _).2.2.1
        have I : Hid (C5 (w5.setCell ⟨k + 1, 2, none⟩ (.slice vo m vc)) k (.slice none 0 0) (.int .i64 0) (.slice none 0 0) (.int .i64 0) (.int .i64 0)) := zaa (K.out.cf B zq)
        have C0 : Hid (Below k w (w5.setCell ⟨k + 1, 2, none⟩ (.slice vo m vc))) := zaa (V.out.trans (B.below (by have := zaf F.out; omega) (fun j hj e => zq)))
        have C1 : Hid (OwnB (w5.setCell ⟨k + 1, 2, none⟩ (.slice vo m vc)) k (.slice ko M kc) ((l.drop s).take M)) := zaa (N.out.cfX B (fun j hj e => (N.out.apart5 F.out) (by rw [hj, e])))
        have C2 : Hid (OwnB (w5.setCell ⟨k + 1, 2, none⟩ (.slice vo m vc)) k (.slice vo m vc) ((l.drop r).take m)) := zaa (U.out.cfX B (fun j hj e => (U.out.apart5 F.out) (by rw [hj, e])))
        have C3 : Hid (k ≤ (w5.setCell ⟨k + 1, 2, none⟩ (.slice vo m vc)).heap.size) := zaa (by have := zaf W.out; omega)
        clear c0 c1 c2 c3 c4 f2 e2 B
        obtain ⟨g0, g1, g2, g3, g4⟩ := W.out.cells
        obtain ⟨i0, i1, i2, i3, i4⟩ := I.out.free
        obtain ⟨j0, j1, j2, j3, j4⟩ := I.out.cells
        go_wp2
        refine bodyPost_ret (zcy rfl _ _ k 50 #[.slice ko M kc, .int .i64 x, .slice vo m vc, .int .i64 0, .int .i64 0] (0, 0) _ (.bool true) zr zr (I.out.put _ _ _ _ _) Tryz.underlying50 rfl zal) rfl ?_
        exact Y.out _ vo m vc 0 0 ((l.drop r).take m) rr I.out C0.out C1.out C2.out C3.out B9.out
    ·have F5 : (x == 1) = false := by simpa using hx
     have B6 : Hid (rdN l p 1 ≠ 1) := zaa (by rw [HX.out]; exact hx)
     have A8 := zaa (pCell_num l p M HM.out B6.out (by rw [D.out]; have := Q.out; omega))
     rw [Q.out, HX.out, L.out, D.out] at A8
     clear hx
     obtain ⟨c0, c1, c2, c3, c4⟩ := E.out.cells
     by_cases h8 : n < t + 8
     ·have G5 : (n : Int) < (t : Int) + 8 := zq
      obtain ⟨d0, d1, d2, d3, d4⟩ := G.out.cells
      obtain ⟨f0, f1, f2, f3, f4⟩ := G.out.free
      go_wp2
      refine bodyPost_ret (zcy rfl _ _ k 50 #[.slice none 0 0, .int .i64 0, .slice none 0 0, .int .i64 0, .int .i64 0] (0, 0) _ (.bool false) zr zr (G.out.put _ _ _ _ _) Tryz.underlying50 rfl zal) rfl ?_
      exact C7.out w3 G.out J.out (by have := B4.out; omega) (A8.out.1 h8)
     ·have G5 : ¬ (n : Int) < (t : Int) + 8 := zq
      have hA := B5.out w3 (t : Int) 4 J.out zq zq (.inr rfl)
      rw [show ((t : Int)).toNat = t by omega, show (4 : Int).toNat = 4 from rfl] at hA
      obtain ⟨r, hr⟩ := A8.out.2 zq
      have HR := zaa hr
      obtain ⟨A, E1⟩ : ∃ A, rdN l t 4 = A := ⟨_, rfl⟩
      obtain ⟨C, C4⟩ : ∃ C, rdN l (t + 4) 4 = C := ⟨_, rfl⟩
      rw [E1] at hA HR
      rw [C4] at HR
      have HA := zaa hA
      have G6 := zaa C4
      have I5 : t + 8 ≤ n := zq
      clear hr hA E1 C4 A8 h8
      go_wp2_with (go_at_call 52; refine HA.out.mono ?_; rintro e w4 ⟨rfl, R⟩; refine Hid.out ?_)
      apply zaa
      have := R.out
      subst this
      obtain ⟨f0, f1, f2, f3, f4⟩ := E.out.free
      obtain ⟨y, hy⟩ : ∃ y, w4.setCell ⟨k + 1, 3, none⟩ (.int .i64 A) = y := ⟨_, rfl⟩
      have B : Cf (· = k + 1) w4 y := by rw [← hy]; exact Cf.set _ _ _ _
      have X : Hid (C5 y (k + 1) (.slice ko M kc) (.int .i64 x) (.slice none 0 0) (.int .i64 A) (.int .i64 0)) := zaa (by rw [← hy]; exact (E.out.set _).2.2.2.1)
      have G7 : Hid (C5 y k (.slice none 0 0) (.int .i64 0) (.slice none 0 0) (.int .i64 0) (.int .i64 0)) := zaa (G.out.cf B zq)
      have E2 : Hid (Below k w y) := zaa (J.out.trans (B.below (by have := B4.out; omega) (fun j hj e => zq)))
      have E3 : Hid (OwnB y k (.slice ko M kc) ((l.drop s).take M)) := zaa (A5.out.cfX B (fun j hj e => (A5.out.apart5 E.out) (by rw [hj, e])))
      have hC := B5.out y ((t : Int) + 4) 4 E2.out zq zq (.inr rfl)
      rw [show ((t : Int) + 4).toNat = t + 4 by omega, show (4 : Int).toNat = 4 from rfl, G6.out] at hC
      have E4 := zaa hC
      have HY := zaa hy
      clear hC hy B HA R
      go_wp2_with (go_at_call 52; refine (show Calls _ _ _ _ _ from (by rw [HY.out]; exact E4.out)).mono ?_; rintro e w5 ⟨rfl, E5⟩; refine Hid.out ?_)
      apply zaa
      have E9 := E5.out
      subst E9
      obtain ⟨e0, e1, e2, e3, e4⟩ := X.out.cells
      obtain ⟨f0, f1, f2, f3, f4⟩ := X.out.free
      have B : Cf (· = k + 1) w5 (w5.setCell ⟨k + 1, 4, none⟩ (.int .i64 C)) := Cf.set _ _ _ _
      have F : Hid (C5 (w5.setCell ⟨k + 1, 4, none⟩ (.int .i64 C)) (k + 1) (.slice ko M kc) (.int .i64 x) (.slice none 0 0) (.int .i64 A) (.int .i64 C)) := zaa (X.out.set _).2.2.2.2
      have K : Hid (C5 (w5.setCell ⟨k + 1, 4, none⟩ (.int .i64 C)) k (.slice none 0 0) (.int .i64 0) (.slice none 0 0) (.int .i64 0) (.int .i64 0)) := zaa (G7.out.cf B zq)
      have V : Hid (Below k w (w5.setCell ⟨k + 1, 4, none⟩ (.int .i64 C))) := zaa (E2.out.trans (B.below (by have := zaf X.out; omega) (fun j hj e => zq)))
      have N : Hid (OwnB (w5.setCell ⟨k + 1, 4, none⟩ (.int .i64 C)) k (.slice ko M kc) ((l.drop s).take M)) := zaa (E3.out.cfX B (fun j hj e => (E3.out.apart5 X.out) (by rw [hj, e])))
      have G8 : Hid (k ≤ (w5.setCell ⟨k + 1, 4, none⟩ (.int .i64 C)).heap.size) := zaa (by have := zaf F.out; omega)
      obtain ⟨g0, g1, g2, g3, g4⟩ := F.out.cells
      obtain ⟨i0, i1, i2, i3, i4⟩ := K.out.free
      obtain ⟨j0, j1, j2, j3, j4⟩ := K.out.cells
      clear B HY E4 E5
      go_wp2
      refine bodyPost_ret (zcy rfl _ _ k 50 #[.slice ko M kc, .int .i64 x, .slice none 0 0, .int .i64 A, .int .i64 C] (0, 0) _ (.bool true) zr zr (K.out.put _ _ _ _ _) Tryz.underlying50 rfl zal) rfl ?_
      exact Y.out _ none 0 0 A C [] r K.out V.out N.out (OwnB.nil _ _) G8.out HR.out
end Go.Proofs.YtbkhjeacmmbabaaGreatDoor
