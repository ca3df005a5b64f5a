import Derived.Test.YtbkhjeacmmbabaaGreatDoorJ12
namespace Go.Proofs.YtbkhjeacmmbabaaGreatDoor
set_option maxRecDepth 100000
set_option maxHeartbeats 4000000
open Go.RowKit
theorem Gr.cf {w w' : World} {v v' : Value} (h : Gr w v w' v') : Cf (fun k => v.ownBlock = some k) w w' := ⟨h.grow.os, h.grow.tape, h.grow.output, h.grow.size, fun k hk hf => h.grow.block k hk (fun e => hf e.symm)⟩
theorem Cf.wide {F G : Nat → Prop} {a b : World} (h : Cf F a b) (hg : ∀ k, F k → G k) : Cf G a b := ⟨h.os, h.tape, h.output, h.size, fun k hk hf => h.block k hk (fun e => hf (hg k e))⟩
theorem OwnB.cfX {w w' : World} {B : Nat} {v : Value} {l : List Int} {F : Nat → Prop} (h : OwnB w B v l) (hc : Cf F w w') (hf : ∀ k, v.ownBlock = some k → ¬ F k) : OwnB w' B v l := by
 unfold OwnB at *
 rcases h.2 with h2 | ⟨g, cap, cur, e, hg, hh, rest⟩
 ·exact ⟨h.1, .inl h2⟩
 ·refine ⟨h.1, .inr ⟨g, cap, cur, e, hg, ?_, rest⟩⟩
  rw [hc.block g (zaf hh) (hf g (by rw [e]; rfl))]
  exact hh
theorem OwnB.sl2 {w : World} {B : Nat} {ao : Option Addr} {n c : Nat} {l : List Int} (h : OwnB w B (.slice ao n c) l) (hw : Wf l) (hl : l.length ≤ 140737488355328) : Sl w ao n c l := by
 obtain ⟨ao', c', e, hs, _⟩ := h.sl hw hl
 injection e with e1 e2 e3
 subst e1 e3
 rw [← e2] at hs
 exact hs
theorem OwnB.blk {w : World} {B : Nat} {v : Value} {l : List Int} (h : OwnB w B v l) {k : Nat} (hk : v.ownBlock = some k) : B ≤ k ∧ k < w.heap.size := by
 unfold OwnB at h
 exact h.lt k hk
def CatTo (l : List Int) (p : Nat) (w : World) (e : Ending) (w' : World) : Prop :=
 ∃ (ko : Option Addr) (kn kc : Nat) (kd : Int) (vo : Option Addr) (vn vc : Nat) (pg ct : Int) (ok : Bool), e = .returned (.tuple #[.agg #[.slice ko kn kc, .int .i64 kd, .slice vo vn vc, .int .i64 pg, .int .i64 ct], .bool ok]) ∧ Hid (Below w.heap.size w w') ∧
  Hid ((ok = false ∧ zaj (l.drop p) = none) ∨ (ok = true ∧ ∃ key val r, zaj (l.drop p) = some (⟨key, kd, val, pg, ct⟩, r) ∧ OwnB w' w.heap.size (.slice ko kn kc) key ∧ OwnB w' w.heap.size (.slice vo vn vc) val))
theorem two_box (w : World) (y0 y1 y2 y3 y4 : Value) :
  C5 ((w.alloc (.cells #[.slice none 0 0, .int .i64 0, .slice none 0 0, .int .i64 0, .int .i64 0] 50)).alloc (.cells #[y0, y1, y2, y3, y4] 50)) w.heap.size (.slice none 0 0) (.int .i64 0) (.slice none 0 0) (.int .i64 0) (.int .i64 0) ∧ C5 ((w.alloc (.cells #[.slice none 0 0, .int .i64 0, .slice none 0 0, .int .i64 0, .int .i64 0] 50)).alloc (.cells #[y0, y1, y2, y3, y4] 50)) (w.heap.size + 1) y0 y1 y2 y3 y4 ∧ Below w.heap.size w ((w.alloc (.cells #[.slice none 0 0, .int .i64 0, .slice none 0 0, .int .i64 0, .int .i64 0] 50)).alloc (.cells #[y0, y1, y2, y3, y4] 50)) := by
 obtain ⟨y, hy⟩ : ∃ y, w.alloc (.cells #[.slice none 0 0, .int .i64 0, .slice none 0 0, .int .i64 0, .int .i64 0] 50) = y := ⟨_, rfl⟩
 have hz : y.heap.size = w.heap.size + 1 := by rw [← hy]; simp
 have h1 : C5 y w.heap.size (.slice none 0 0) (.int .i64 0) (.slice none 0 0) (.int .i64 0) (.int .i64 0) := by rw [← hy]; exact C5.box w _ _ _ _ _
 have hby : Below w.heap.size w y := by rw [← hy]; exact zad Br Lr _
 rw [hy]
 have h2 := C5.box y y0 y1 y2 y3 y4
 rw [hz] at h2
 have hbz : Below y.heap.size y (y.alloc (.cells #[y0, y1, y2, y3, y4] 50)) := zad Br Lr _
 exact ⟨zag h1 hbz, h2, zae hby Lr hbz⟩
theorem own_slice6m {w : World} {B m : Nat} {v : Value} {l : List Int} (h : OwnB w B v ([] ++ l)) (hl : l.length = m) : ∃ ao c, v = .slice ao m c ∧ Hid (OwnB w B (.slice ao m c) l) := by
 rw [List.nil_append] at h
 obtain ⟨ao, c, rfl⟩ := zbw h
 subst hl
 exact ⟨ao, c, rfl, zaa h⟩
theorem apt_none (u : Value) : Apt u (.slice none 0 0) := by
 unfold Apt
 cases h : u.ownBlock with
 | none => exact .inl rfl
 | some z => exact .inr (by simp [Value.ownBlock])
theorem wrap64n (t : Nat) (h : t ≤ 140737488355328) : IntKind.i64.wrap (t : Int) = (t : Int) := by
 unfold IntKind.wrap
 simp [IntKind.bits, IntKind.signed]
 omega
theorem cellAt_any (ao : Option Addr) (n cap : Nat) (l : List Int) (p : Nat) (w : World) (hs : Sl w ao n cap l) (hp : p ≤ 65536) :
  Calls Tryz.prog 53 #[.slice ao n cap, .int .i64 (p : Int)] w fun e w' => CatTo l p w e w' := by
 obtain ⟨k, hk⟩ : ∃ k, w.heap.size = k := ⟨_, rfl⟩
 have hn := hs.hroom
 have hcap := hs.hcap
 have HLEN := zaa hs.hlen
 have HS := zaa hs
 have hpI : (p : Int) ≤ 65536 := by omega
 obtain ⟨s, hse⟩ : ∃ s, p + 3 = s := ⟨_, rfl⟩
 have hsI : (p : Int) + 3 = (s : Int) := by omega
 have HSE := zaa hse
 by_cases h3 : n < s
 ·have h3I : (n : Int) < (s : Int) := by omega
  have HB0 : Hid (Below w.heap.size w (w.alloc (.cells #[.slice none 0 0, .int .i64 0, .slice none 0 0, .int .i64 0, .int .i64 0] 50))) := zaa (zad Br Lr _)
  have HC0 : Hid (C5 (w.alloc (.cells #[.slice none 0 0, .int .i64 0, .slice none 0 0, .int .i64 0, .int .i64 0] 50)) k (.slice none 0 0) (.int .i64 0) (.slice none 0 0) (.int .i64 0) (.int .i64 0)) := zaa (by rw [← hk]; exact C5.box w _ _ _ _ _)
  have HN : Hid (zaj (l.drop p) = none) := zaa (pCell_few l p (by rw [HLEN.out]; omega))
  clear hs hse
  go_enter Tryz.func53, Tryz.ntmps53
  go_wp2
  refine bodyPost_ret (zdj rfl _ _ k 50 #[.slice none 0 0, .int .i64 0, .slice none 0 0, .int .i64 0, .int .i64 0] (0, 0) _ (.bool false) (by rfl) (by rfl) HC0.out Tryz.underlying50 rfl zal) rfl ?_
  exact ⟨none, 0, 0, 0, none, 0, 0, 0, 0, false, rfl, HB0, zaa (.inl ⟨rfl, HN.out⟩)⟩
 ·have h3I : ¬ (n : Int) < (s : Int) := by omega
  obtain ⟨g, off, rfl, hgl, hcl⟩ : ∃ g off, ao = some ⟨g, off, none⟩ ∧ g < w.heap.size ∧ ∀ i, i < n → w.cell? ⟨g, off + i, none⟩ = some (.int .u8 (l.getD i 0)) := by
   rcases hs.hat with h0 | h0
   ·omega
   ·exact h0
  have hpn : (p : Int) < (n : Int) := by omega
  have b0 : (w.alloc (.cells #[.slice none 0 0, .int .i64 0, .slice none 0 0, .int .i64 0, .int .i64 0] 50)).cell? ⟨g, off + p, none⟩ = some (.int .u8 (l.getD p 0)) := ((zad (Below.refl w.heap.size w) Lr _).cell (p := ⟨g, off + p, none⟩) hgl).trans (hcl p (by omega))
  have HX : Hid (rdN l p 1 = l.getD p 0) := zaa (rdN_one l p (by rw [HLEN.out]; omega))
  have hxb : 0 ≤ l.getD p 0 ∧ l.getD p 0 ≤ 255 := by
   have := zbh l hs.wf p 1
   rw [HX.out] at this
   simp at this
   simp
   omega
  obtain ⟨x, hx⟩ : ∃ x, l.getD p 0 = x := ⟨_, rfl⟩
  rw [hx] at b0 HX hxb
  obtain ⟨hx0, hx1⟩ := hxb
  have hMb := zbh l hs.wf (p + 1) 2
  obtain ⟨M, hM⟩ := Int.eq_ofNat_of_zero_le hMb.1
  have hM6 : (M : Int) < 65536 := by have := hMb.2; rw [hM] at this; simpa using this
  have HM : Hid (rdN l (p + 1) 2 = (M : Int)) := zaa hM
  have HN1 : Hid (∀ u, Below k w u → Calls Tryz.prog 52 #[.slice (some ⟨g, off, none⟩) n cap, .int .i64 ((p : Int) + 1), .int .i64 2] u fun e w' => e = .returned (.int .i64 (M : Int)) ∧ Hid (w' = u)) := zaa (fun u hu => by
   have h := rnumb6_any (some ⟨g, off, none⟩) n cap l ((p : Int) + 1) 2 u (HS.out.on (by rw [hk]; exact Lr) hu) (by omega) (by omega) (.inl rfl)
   rw [show ((p : Int) + 1).toNat = p + 1 by omega, show (2 : Int).toNat = 2 from rfl, HM.out] at h
   exact h.mono (fun e w' hh => ⟨hh.1, zaa hh.2⟩))
  have TB := two_box w (.slice none 0 0) (.int .i64 x) (.slice none 0 0) (.int .i64 0) (.int .i64 0)
  rw [hk] at TB
  have HTB := zaa TB
  obtain ⟨t, hte⟩ : ∃ t, s + M = t := ⟨_, rfl⟩
  have htI : (s : Int) + (M : Int) = (t : Int) := by omega
  have HTE := zaa hte
  clear hs hcl hM hMb TB hx hgl hse hte
  go_enter Tryz.func53, Tryz.ntmps53
  go_wp2_with (go_at_call 52; refine (HN1.out _ ?_).mono ?_; exact HTB.out.2.2; rintro e w1 ⟨rfl, hw1⟩; refine Hid.out ?_)
  apply zaa
  have H1 : Hid (C5 w1 k (.slice none 0 0) (.int .i64 0) (.slice none 0 0) (.int .i64 0) (.int .i64 0) ∧ C5 w1 (k + 1) (.slice none 0 0) (.int .i64 x) (.slice none 0 0) (.int .i64 0) (.int .i64 0) ∧ Below k w w1) := zaa (by rw [hw1.out]; exact HTB.out)
  clear hw1 HTB HN1 b0
  have hns : k + 2 ≤ w1.heap.size := by have := zaf H1.out.2.1; omega
  have HSE2 := And.intro HSE.out HTE.out
  by_cases h5 : n < t + 2
  ·have h5I : (n : Int) < (t : Int) + 2 := by omega
   have HN : Hid (zaj (l.drop p) = none) := zaa (pCell_short l p M HM.out (by rw [HLEN.out]; have := HSE.out; omega) (by rw [HLEN.out]; have := HSE.out; have := HTE.out; omega))
   clear HSE2
   obtain ⟨c0, c1, c2, c3, c4⟩ := H1.out.1.cells
   obtain ⟨f0, f1, f2, f3, f4⟩ := H1.out.1.free
   go_wp2
   refine bodyPost_ret (zdj rfl _ _ k 50 #[.slice none 0 0, .int .i64 0, .slice none 0 0, .int .i64 0, .int .i64 0] (0, 0) _ (.bool false) (by rfl) (by rfl) (H1.out.1.put _ _ _ _ _) Tryz.underlying50 rfl zal) rfl ?_
   have hf := zas w1 k (.slice none 0 0) (.int .i64 0) (.slice none 0 0) (.int .i64 0) (.int .i64 0)
   exact ⟨none, 0, 0, 0, none, 0, 0, 0, 0, false, rfl, zaa (by rw [hk]; exact H1.out.2.2.trans (hf.below (by omega) (fun j hj e => by omega))), zaa (.inl ⟨rfl, HN.out⟩)⟩
  ·have h5I : ¬ (n : Int) < (t : Int) + 2 := by omega
   have hse := HSE.out
   have hte := HTE.out
   have HSP : Hid (∀ u, Below k w u → Sl u (some ⟨g, off + s, none⟩) (t - s) (cap - s) ((l.drop s).take M)) := zaa (fun u hu => by
    have h := (HS.out.on (by rw [hk]; exact Lr) hu).piece s M (cap - s) (by omega) (by omega)
    rw [show M = t - s by omega] at h ⊢
    exact h)
   have t1 : s ≤ t := by omega
   have t3 : t ≤ cap := by omega
   have t4 : (s : Int) ≤ (t : Int) := by omega
   have t5 : (t : Int) ≤ (cap : Int) := by omega
   have t6 : ¬ cap = s := by omega
   have t7 : s < cap := by omega
   have t8 : ¬ cap - s = 0 := by omega
   have hwt := wrap64n t (by omega)
   have HH : Hid (k ≤ w1.heap.size) := zaa (by omega)
   have HTS : Hid (t - s ≤ 140737488355328) := zaa (by omega)
   clear hse hte HSE2
   obtain ⟨c0, c1, c2, c3, c4⟩ := H1.out.2.1.cells
   go_wp2_with fail
   have HPL : Hid (((l.drop s).take M).length = M) := zaa (by rw [zJ, zK, HLEN.out]; omega)
   go_region_law (first
    | (refine step_sl rfl _ _ rfl k [] ((l.drop s).take M) (.slice none 0 0) (some ⟨g, off + s, none⟩) (t - s) (cap - s) rfl rfl (OwnB.nil _ _) (HSP.out _ (H1.out.2.2.trans (by (repeat (first | exact Br | apply Below.drew | apply below_drewN))))) (by simpa using HTS.out) (by exact HH.out) ?_; intro v2 w2 ho hg; obtain ⟨f0, _⟩ := (C5.gr (w := w1.drew) (v := .slice none 0 0) H1.out.2.1 hg (by simp [Value.ownBlock])).free; obtain ⟨e0, _⟩ := (C5.gr (w := w1.drew) (v := .slice none 0 0) H1.out.2.1 hg (by simp [Value.ownBlock])).cells; obtain ⟨ko, kc, rfl, HO2⟩ := own_slice6m ho HPL.out; have HG2 := zaa hg; clear ho hg))
   all_goals
    have HC2 : Hid (C5 w2 (k + 1) (.slice none 0 0) (.int .i64 x) (.slice none 0 0) (.int .i64 0) (.int .i64 0)) := zaa (C5.gr (w := w1.drew) (v := .slice none 0 0) H1.out.2.1 HG2.out (by simp [Value.ownBlock]))
    have HK2 : Hid (C5 w2 k (.slice none 0 0) (.int .i64 0) (.slice none 0 0) (.int .i64 0) (.int .i64 0)) := zaa (C5.gr (w := w1.drew) (v := .slice none 0 0) H1.out.1 HG2.out (by simp [Value.ownBlock]))
    have HB2 : Hid (Below k w w2) := zaa ((Below.drew H1.out.2.2).trans (HG2.out.below (OwnB.nil w1.drew k) HH.out))
    have HS2 : Hid (k + 2 ≤ w2.heap.size) := zaa (by have := zaf HC2.out; omega)
    obtain ⟨w3, hw3⟩ : ∃ w3, w2.setCell ⟨k + 1, 0, none⟩ (.slice ko M kc) = w3 := ⟨_, rfl⟩
    have hcf : Cf (· = k + 1) w2 w3 := by rw [← hw3]; exact Cf.set _ _ _ _
    have HC3 : Hid (C5 w3 (k + 1) (.slice ko M kc) (.int .i64 x) (.slice none 0 0) (.int .i64 0) (.int .i64 0)) := zaa (by rw [← hw3]; exact (HC2.out.set _).1)
    have HK3 : Hid (C5 w3 k (.slice none 0 0) (.int .i64 0) (.slice none 0 0) (.int .i64 0) (.int .i64 0)) := zaa (HK2.out.cf hcf (by omega))
    have HB3 : Hid (Below k w w3) := zaa (HB2.out.trans (hcf.below (by have := HS2.out; omega) (fun j hj e => by omega)))
    have HO3 : Hid (OwnB w3 k (.slice ko M kc) ((l.drop s).take M)) := zaa (HO2.out.cfX hcf (fun j hj e => (HO2.out.apart5 HC2.out) (by rw [hj, e])))
    have HS3 : Hid (k + 2 ≤ w3.heap.size) := zaa (zN HS2.out hcf.size)
    rw [hw3]
    clear hw3 hcf HC2 HK2 HB2 HS2 HO2 HG2 f0 e0 c0 c1 c2 c3 c4 H1 hns HSP HTS HH t1 t3 t4 t5 t6 t7 t8 hwt
    have HNU : Hid (∀ (u : World) (j d : Int), Below k w u → 0 ≤ j → j + d ≤ n → (d = 2 ∨ d = 4) → Calls Tryz.prog 52 #[.slice (some ⟨g, off, none⟩) n cap, .int .i64 j, .int .i64 d] u fun e w' => e = .returned (.int .i64 (rdN l j.toNat d.toNat)) ∧ Hid (w' = u)) := zaa (fun u j d hu h0 h1 h2 => (rnumb6_any (some ⟨g, off, none⟩) n cap l j d u (HS.out.on (by rw [hk]; exact Lr) hu) h0 h1 h2).mono (fun e w' hh => ⟨hh.1, zaa hh.2⟩))
    have HTP : Hid (p + 3 + M = t) := zaa (by have := HSE.out; have := HTE.out; omega)
    have HFIN : Hid (∀ (u : World) (vo : Option Addr) (vn vc : Nat) (pg ct : Int) (val r : List Int), C5 u k (.slice none 0 0) (.int .i64 0) (.slice none 0 0) (.int .i64 0) (.int .i64 0) → Below k w u → OwnB u k (.slice ko M kc) ((l.drop s).take M) → OwnB u k (.slice vo vn vc) val → k ≤ u.heap.size → zaj (l.drop p) = some (⟨(l.drop s).take M, x, val, pg, ct⟩, r) → CatTo l p w (.returned (.tuple #[.agg #[.slice ko M kc, .int .i64 x, .slice vo vn vc, .int .i64 pg, .int .i64 ct], .bool true])) (put5 u k (.slice ko M kc) (.int .i64 x) (.slice vo vn vc) (.int .i64 pg) (.int .i64 ct))) := zaa (fun u vo vn vc pg ct val r hC hB hO hV hu hp => by
     have hf := zas u k (.slice ko M kc) (.int .i64 x) (.slice vo vn vc) (.int .i64 pg) (.int .i64 ct)
     exact ⟨ko, M, kc, x, vo, vn, vc, pg, ct, true, rfl, zaa (by rw [hk]; exact hB.trans (hf.below hu (fun j hj e => by omega))), zaa (.inr ⟨rfl, _, val, r, hp, by rw [hk]; exact hO.cfX hf (fun j hj e => (hO.apart5 hC) (by rw [hj, e])), by rw [hk]; exact hV.cfX hf (fun j hj e => (hV.apart5 hC) (by rw [hj, e]))⟩)⟩)
    have HREF : Hid (∀ u : World, C5 u k (.slice none 0 0) (.int .i64 0) (.slice none 0 0) (.int .i64 0) (.int .i64 0) → Below k w u → k ≤ u.heap.size → zaj (l.drop p) = none → CatTo l p w (.returned (.tuple #[.agg #[.slice none 0 0, .int .i64 0, .slice none 0 0, .int .i64 0, .int .i64 0], .bool false])) (put5 u k (.slice none 0 0) (.int .i64 0) (.slice none 0 0) (.int .i64 0) (.int .i64 0))) := zaa (fun u hC hB hu hp => by
     have hf := zas u k (.slice none 0 0) (.int .i64 0) (.slice none 0 0) (.int .i64 0) (.int .i64 0)
     exact ⟨none, 0, 0, 0, none, 0, 0, 0, 0, false, rfl, zaa (by rw [hk]; exact hB.trans (hf.below hu (fun j hj e => by omega))), zaa (.inl ⟨rfl, hp⟩)⟩)
    have h5n : t + 2 ≤ n := by omega
    have hsk : (s : Int) ≤ 65539 := by omega
    have htk : (t : Int) ≤ 140737488355328 := by omega
    clear h5 h5I
    by_cases hx : x = 1
    ·have hxe : (x == 1) = true := by simpa using hx
     have HX1 : Hid (rdN l p 1 = 1) := zaa (by rw [HX.out]; exact hx)
     have HXX := zaa hx
     have hmb := zbh l HS.out.wf t 2
     obtain ⟨m, hm⟩ := Int.eq_ofNat_of_zero_le hmb.1
     have hm6 : (m : Int) < 65536 := by have := hmb.2; rw [hm] at this; simpa using this
     have HPV := zaa (pCell_val l p M m HM.out HX1.out (by rw [HTP.out]; exact hm) (by rw [HLEN.out]; have := HTP.out; omega))
     rw [HTP.out, HSE.out, HLEN.out] at HPV
     have hA := HNU.out w3 (t : Int) 2 HB3.out (by omega) (by omega) (.inl rfl)
     rw [show ((t : Int)).toNat = t by omega, show (2 : Int).toNat = 2 from rfl, hm] at hA
     have HA := zaa hA
     clear hx hmb hm hA
     obtain ⟨c0, c1, c2, c3, c4⟩ := HC3.out.cells
     go_wp2_with (go_at_call 52; refine HA.out.mono ?_; rintro e w4 ⟨rfl, hw4⟩; refine Hid.out ?_)
     apply zaa
     have hww : w3 = w4 := hw4.out.symm
     subst hww
     obtain ⟨r, hre⟩ : ∃ r, t + 2 = r := ⟨_, rfl⟩
     have hrI : (t : Int) + 2 = (r : Int) := by omega
     obtain ⟨q, hqe⟩ : ∃ q, r + m = q := ⟨_, rfl⟩
     have hqI : (r : Int) + (m : Int) = (q : Int) := by omega
     have HTR := zaa hre
     have HRQ := zaa hqe
     have hrn : r ≤ n := by omega
     have HS3L : Hid (k ≤ w3.heap.size) := zaa (by have := HS3.out; omega)
     clear c0 c1 c2 c3 c4 HA hw4
     by_cases h6 : n < q
     ·have h6I : (n : Int) < (q : Int) := by omega
      have HNO := zaa (HPV.out.1 (by omega))
      clear hre hqe
      obtain ⟨d0, d1, d2, d3, d4⟩ := HK3.out.cells
      obtain ⟨f0, f1, f2, f3, f4⟩ := HK3.out.free
      go_wp2
      refine bodyPost_ret (zdj rfl _ _ k 50 #[.slice none 0 0, .int .i64 0, .slice none 0 0, .int .i64 0, .int .i64 0] (0, 0) _ (.bool false) (by rfl) (by rfl) (HK3.out.put _ _ _ _ _) Tryz.underlying50 rfl zal) rfl ?_
      exact HREF.out w3 HK3.out HB3.out HS3L.out HNO.out
     ·have h6I : ¬ (n : Int) < (q : Int) := by omega
      obtain ⟨rr, hrr⟩ := HPV.out.2 (by omega)
      rw [hre] at hrr
      have HRR : Hid (zaj (l.drop p) = some (⟨(l.drop s).take M, x, (l.drop r).take m, 0, 0⟩, rr)) := zaa (by rw [HXX.out]; exact hrr)
      clear hrr
      by_cases hrc : cap = r
      ·have hm0 : m = 0 := by omega
       subst hm0
       have hqr : r = q := by omega
       subst hqr
       have t5 : (r : Int) ≤ (cap : Int) := by omega
       have t6 : r ≤ cap := by omega
       have hwt := wrap64n r (by omega)
       rw [List.take_zero] at HRR
       clear hre hqe hqI HPV
       have HPL2 : Hid (([] : List Int).length = 0) := zaa rfl
       obtain ⟨c0, c1, c2, c3, c4⟩ := HC3.out.cells
       go_wp2_with fail
       go_region_law (first
        | (refine step_sl rfl _ _ rfl k [] ([] : List Int) (.slice none 0 0) _ _ _ rfl rfl (OwnB.nil _ _) (Sl.nil_any _ _ _ (by intro h; cases h)) (by simp) (by exact HS3L.out) ?_; intro v2 w5 ho hg; obtain ⟨_, _, f2, _⟩ := (C5.gr (w := w3.drew) (v := .slice none 0 0) HC3.out hg (by simp [Value.ownBlock])).free; obtain ⟨_, _, e2, _⟩ := (C5.gr (w := w3.drew) (v := .slice none 0 0) HC3.out hg (by simp [Value.ownBlock])).cells; obtain ⟨vo, vc, rfl, HV5⟩ := own_slice6m ho HPL2.out; have HG5 := zaa hg; clear ho hg))
       all_goals
        have HC5 : Hid (C5 w5 (k + 1) (.slice ko M kc) (.int .i64 x) (.slice none 0 0) (.int .i64 0) (.int .i64 0)) := zaa (C5.gr (w := w3.drew) (v := .slice none 0 0) HC3.out HG5.out (by simp [Value.ownBlock]))
        have HK5 : Hid (C5 w5 k (.slice none 0 0) (.int .i64 0) (.slice none 0 0) (.int .i64 0) (.int .i64 0)) := zaa (C5.gr (w := w3.drew) (v := .slice none 0 0) HK3.out HG5.out (by simp [Value.ownBlock]))
        have HB5 : Hid (Below k w w5) := zaa ((Below.drew HB3.out).trans (HG5.out.below (OwnB.nil w3.drew k) HS3L.out))
        have HO5 : Hid (OwnB w5 k (.slice ko M kc) ((l.drop s).take M)) := zaa (zdi (w := w3.drew) HO3.out HG5.out (apt_none _))
        have hcf : Cf (· = k + 1) w5 (w5.setCell ⟨k + 1, 2, none⟩ (.slice vo 0 vc)) := Cf.set _ _ _ _
        have HC6 : Hid (C5 (w5.setCell ⟨k + 1, 2, none⟩ (.slice vo 0 vc)) (k + 1) (.slice ko M kc) (.int .i64 x) (.slice vo 0 vc) (.int .i64 0) (.int .i64 0)) := zaa (HC5.out.set _).2.2.1
        have HK6 : Hid (C5 (w5.setCell ⟨k + 1, 2, none⟩ (.slice vo 0 vc)) k (.slice none 0 0) (.int .i64 0) (.slice none 0 0) (.int .i64 0) (.int .i64 0)) := zaa (HK5.out.cf hcf (by omega))
        have HB6 : Hid (Below k w (w5.setCell ⟨k + 1, 2, none⟩ (.slice vo 0 vc))) := zaa (HB5.out.trans (hcf.below (by have := zaf HC5.out; omega) (fun j hj e => by omega)))
        have HO6 : Hid (OwnB (w5.setCell ⟨k + 1, 2, none⟩ (.slice vo 0 vc)) k (.slice ko M kc) ((l.drop s).take M)) := zaa (HO5.out.cfX hcf (fun j hj e => (HO5.out.apart5 HC5.out) (by rw [hj, e])))
        have HV6 : Hid (OwnB (w5.setCell ⟨k + 1, 2, none⟩ (.slice vo 0 vc)) k (.slice vo 0 vc) ([] : List Int)) := zaa (HV5.out.cfX hcf (fun j hj e => (HV5.out.apart5 HC5.out) (by rw [hj, e])))
        have HS6 : Hid (k ≤ (w5.setCell ⟨k + 1, 2, none⟩ (.slice vo 0 vc)).heap.size) := zaa (by have := zaf HC6.out; omega)
        clear c0 c1 c2 c3 c4 f2 e2 hcf
        obtain ⟨g0, g1, g2, g3, g4⟩ := HC6.out.cells
        obtain ⟨i0, i1, i2, i3, i4⟩ := HK6.out.free
        obtain ⟨j0, j1, j2, j3, j4⟩ := HK6.out.cells
        go_wp2
        refine bodyPost_ret (zdj rfl _ _ k 50 #[.slice ko M kc, .int .i64 x, .slice vo 0 vc, .int .i64 0, .int .i64 0] (0, 0) _ (.bool true) (by rfl) (by rfl) (HK6.out.put _ _ _ _ _) Tryz.underlying50 rfl zal) rfl ?_
        exact HFIN.out _ vo 0 vc 0 0 [] rr HK6.out HB6.out HO6.out HV6.out HS6.out HRR.out
      ·have HSP2 : Hid (∀ u, Below k w u → Sl u (some ⟨g, off + r, none⟩) (q - r) (cap - r) ((l.drop r).take m)) := zaa (fun u hu => by
        have h := (HS.out.on (by rw [hk]; exact Lr) hu).piece r m (cap - r) (by omega) (by omega)
        rw [show m = q - r by omega] at h ⊢
        exact h)
       have t1 : r ≤ q := by omega
       have t3 : q ≤ cap := by omega
       have t4 : (r : Int) ≤ (q : Int) := by omega
       have t5 : (q : Int) ≤ (cap : Int) := by omega
       have t7 : r < cap := by omega
       have t8 : ¬ cap - r = 0 := by omega
       have hwt := wrap64n q (by omega)
       have HTS2 : Hid (q - r ≤ 140737488355328) := zaa (by omega)
       clear hre hqe
       have HPL2 : Hid (((l.drop r).take m).length = m) := zaa (by rw [zJ, zK, HLEN.out]; have := HTR.out; have := HRQ.out; omega)
       obtain ⟨c0, c1, c2, c3, c4⟩ := HC3.out.cells
       go_wp2_with fail
       go_region_law (first
        | (refine step_sl rfl _ _ rfl k [] ((l.drop r).take m) (.slice none 0 0) (some ⟨g, off + r, none⟩) (q - r) (cap - r) rfl rfl (OwnB.nil _ _) (HSP2.out _ (HB3.out.trans (by (repeat (first | exact Br | apply Below.drew | apply below_drewN))))) (by simpa using HTS2.out) (by exact HS3L.out) ?_; intro v2 w5 ho hg; obtain ⟨_, _, f2, _⟩ := (C5.gr (w := w3.drew) (v := .slice none 0 0) HC3.out hg (by simp [Value.ownBlock])).free; obtain ⟨_, _, e2, _⟩ := (C5.gr (w := w3.drew) (v := .slice none 0 0) HC3.out hg (by simp [Value.ownBlock])).cells; obtain ⟨vo, vc, rfl, HV5⟩ := own_slice6m ho HPL2.out; have HG5 := zaa hg; clear ho hg))
       all_goals
        have HC5 : Hid (C5 w5 (k + 1) (.slice ko M kc) (.int .i64 x) (.slice none 0 0) (.int .i64 0) (.int .i64 0)) := zaa (C5.gr (w := w3.drew) (v := .slice none 0 0) HC3.out HG5.out (by simp [Value.ownBlock]))
        have HK5 : Hid (C5 w5 k (.slice none 0 0) (.int .i64 0) (.slice none 0 0) (.int .i64 0) (.int .i64 0)) := zaa (C5.gr (w := w3.drew) (v := .slice none 0 0) HK3.out HG5.out (by simp [Value.ownBlock]))
        have HB5 : Hid (Below k w w5) := zaa ((Below.drew HB3.out).trans (HG5.out.below (OwnB.nil w3.drew k) HS3L.out))
        have HO5 : Hid (OwnB w5 k (.slice ko M kc) ((l.drop s).take M)) := zaa (zdi (w := w3.drew) HO3.out HG5.out (apt_none _))
        have hcf : Cf (· = k + 1) w5 (w5.setCell ⟨k + 1, 2, none⟩ (.slice vo m vc)) := Cf.set _ _ _ _
        have HC6 : Hid (C5 (w5.setCell ⟨k + 1, 2, none⟩ (.slice vo m vc)) (k + 1) (.slice ko M kc) (.int .i64 x) (.slice vo m vc) (.int .i64 0) (.int .i64 0)) := zaa (HC5.out.set _).2.2.1
        have HK6 : Hid (C5 (w5.setCell ⟨k + 1, 2, none⟩ (.slice vo m vc)) k (.slice none 0 0) (.int .i64 0) (.slice none 0 0) (.int .i64 0) (.int .i64 0)) := zaa (HK5.out.cf hcf (by omega))
        have HB6 : Hid (Below k w (w5.setCell ⟨k + 1, 2, none⟩ (.slice vo m vc))) := zaa (HB5.out.trans (hcf.below (by have := zaf HC5.out; omega) (fun j hj e => by omega)))
        have HO6 : Hid (OwnB (w5.setCell ⟨k + 1, 2, none⟩ (.slice vo m vc)) k (.slice ko M kc) ((l.drop s).take M)) := zaa (HO5.out.cfX hcf (fun j hj e => (HO5.out.apart5 HC5.out) (by rw [hj, e])))
        have HV6 : Hid (OwnB (w5.setCell ⟨k + 1, 2, none⟩ (.slice vo m vc)) k (.slice vo m vc) ((l.drop r).take m)) := zaa (HV5.out.cfX hcf (fun j hj e => (HV5.out.apart5 HC5.out) (by rw [hj, e])))
        have HS6 : Hid (k ≤ (w5.setCell ⟨k + 1, 2, none⟩ (.slice vo m vc)).heap.size) := zaa (by have := zaf HC6.out; omega)
        clear c0 c1 c2 c3 c4 f2 e2 hcf
        obtain ⟨g0, g1, g2, g3, g4⟩ := HC6.out.cells
        obtain ⟨i0, i1, i2, i3, i4⟩ := HK6.out.free
        obtain ⟨j0, j1, j2, j3, j4⟩ := HK6.out.cells
        go_wp2
        refine bodyPost_ret (zdj rfl _ _ k 50 #[.slice ko M kc, .int .i64 x, .slice vo m vc, .int .i64 0, .int .i64 0] (0, 0) _ (.bool true) (by rfl) (by rfl) (HK6.out.put _ _ _ _ _) Tryz.underlying50 rfl zal) rfl ?_
        exact HFIN.out _ vo m vc 0 0 ((l.drop r).take m) rr HK6.out HB6.out HO6.out HV6.out HS6.out HRR.out
    ·have hxe : (x == 1) = false := by simpa using hx
     have HX1 : Hid (rdN l p 1 ≠ 1) := zaa (by rw [HX.out]; exact hx)
     have HPN := zaa (pCell_num l p M HM.out HX1.out (by rw [HLEN.out]; have := HTP.out; omega))
     rw [HTP.out, HX.out, HSE.out, HLEN.out] at HPN
     clear hx
     obtain ⟨c0, c1, c2, c3, c4⟩ := HC3.out.cells
     by_cases h8 : n < t + 8
     ·have h8I : (n : Int) < (t : Int) + 8 := by omega
      obtain ⟨d0, d1, d2, d3, d4⟩ := HK3.out.cells
      obtain ⟨f0, f1, f2, f3, f4⟩ := HK3.out.free
      go_wp2
      refine bodyPost_ret (zdj rfl _ _ k 50 #[.slice none 0 0, .int .i64 0, .slice none 0 0, .int .i64 0, .int .i64 0] (0, 0) _ (.bool false) (by rfl) (by rfl) (HK3.out.put _ _ _ _ _) Tryz.underlying50 rfl zal) rfl ?_
      exact HREF.out w3 HK3.out HB3.out (by have := HS3.out; omega) (HPN.out.1 h8)
     ·have h8I : ¬ (n : Int) < (t : Int) + 8 := by omega
      have hA := HNU.out w3 (t : Int) 4 HB3.out (by omega) (by omega) (.inr rfl)
      rw [show ((t : Int)).toNat = t by omega, show (4 : Int).toNat = 4 from rfl] at hA
      obtain ⟨r, hr⟩ := HPN.out.2 (by omega)
      have HR := zaa hr
      obtain ⟨A, hAA⟩ : ∃ A, rdN l t 4 = A := ⟨_, rfl⟩
      obtain ⟨C, hCC⟩ : ∃ C, rdN l (t + 4) 4 = C := ⟨_, rfl⟩
      rw [hAA] at hA HR
      rw [hCC] at HR
      have HA := zaa hA
      have HCC := zaa hCC
      have h8n : t + 8 ≤ n := by omega
      clear hr hA hAA hCC HPN h8
      go_wp2_with (go_at_call 52; refine HA.out.mono ?_; rintro e w4 ⟨rfl, hw4⟩; refine Hid.out ?_)
      apply zaa
      have := hw4.out
      subst this
      obtain ⟨f0, f1, f2, f3, f4⟩ := HC3.out.free
      obtain ⟨y, hy⟩ : ∃ y, w4.setCell ⟨k + 1, 3, none⟩ (.int .i64 A) = y := ⟨_, rfl⟩
      have hcf : Cf (· = k + 1) w4 y := by rw [← hy]; exact Cf.set _ _ _ _
      have HC4 : Hid (C5 y (k + 1) (.slice ko M kc) (.int .i64 x) (.slice none 0 0) (.int .i64 A) (.int .i64 0)) := zaa (by rw [← hy]; exact (HC3.out.set _).2.2.2.1)
      have HK4 : Hid (C5 y k (.slice none 0 0) (.int .i64 0) (.slice none 0 0) (.int .i64 0) (.int .i64 0)) := zaa (HK3.out.cf hcf (by omega))
      have HB4 : Hid (Below k w y) := zaa (HB3.out.trans (hcf.below (by have := HS3.out; omega) (fun j hj e => by omega)))
      have HO4 : Hid (OwnB y k (.slice ko M kc) ((l.drop s).take M)) := zaa (HO3.out.cfX hcf (fun j hj e => (HO3.out.apart5 HC3.out) (by rw [hj, e])))
      have hC := HNU.out y ((t : Int) + 4) 4 HB4.out (by omega) (by omega) (.inr rfl)
      rw [show ((t : Int) + 4).toNat = t + 4 by omega, show (4 : Int).toNat = 4 from rfl, HCC.out] at hC
      have HCX := zaa hC
      have HY := zaa hy
      clear hC hy hcf HA hw4
      go_wp2_with (go_at_call 52; refine (show Calls _ _ _ _ _ from (by rw [HY.out]; exact HCX.out)).mono ?_; rintro e w5 ⟨rfl, hw5⟩; refine Hid.out ?_)
      apply zaa
      have hw5' := hw5.out
      subst hw5'
      obtain ⟨e0, e1, e2, e3, e4⟩ := HC4.out.cells
      obtain ⟨f0, f1, f2, f3, f4⟩ := HC4.out.free
      have hcf : Cf (· = k + 1) w5 (w5.setCell ⟨k + 1, 4, none⟩ (.int .i64 C)) := Cf.set _ _ _ _
      have HC5 : Hid (C5 (w5.setCell ⟨k + 1, 4, none⟩ (.int .i64 C)) (k + 1) (.slice ko M kc) (.int .i64 x) (.slice none 0 0) (.int .i64 A) (.int .i64 C)) := zaa (HC4.out.set _).2.2.2.2
      have HK5 : Hid (C5 (w5.setCell ⟨k + 1, 4, none⟩ (.int .i64 C)) k (.slice none 0 0) (.int .i64 0) (.slice none 0 0) (.int .i64 0) (.int .i64 0)) := zaa (HK4.out.cf hcf (by omega))
      have HB5 : Hid (Below k w (w5.setCell ⟨k + 1, 4, none⟩ (.int .i64 C))) := zaa (HB4.out.trans (hcf.below (by have := zaf HC4.out; omega) (fun j hj e => by omega)))
      have HO5 : Hid (OwnB (w5.setCell ⟨k + 1, 4, none⟩ (.int .i64 C)) k (.slice ko M kc) ((l.drop s).take M)) := zaa (HO4.out.cfX hcf (fun j hj e => (HO4.out.apart5 HC4.out) (by rw [hj, e])))
      have HS5 : Hid (k ≤ (w5.setCell ⟨k + 1, 4, none⟩ (.int .i64 C)).heap.size) := zaa (by have := zaf HC5.out; omega)
      obtain ⟨g0, g1, g2, g3, g4⟩ := HC5.out.cells
      obtain ⟨i0, i1, i2, i3, i4⟩ := HK5.out.free
      obtain ⟨j0, j1, j2, j3, j4⟩ := HK5.out.cells
      clear hcf HY HCX hw5
      go_wp2
      refine bodyPost_ret (zdj rfl _ _ k 50 #[.slice ko M kc, .int .i64 x, .slice none 0 0, .int .i64 A, .int .i64 C] (0, 0) _ (.bool true) (by rfl) (by rfl) (HK5.out.put _ _ _ _ _) Tryz.underlying50 rfl zal) rfl ?_
      exact HFIN.out _ none 0 0 A C [] r HK5.out HB5.out HO5.out (OwnB.nil _ _) HS5.out HR.out
theorem kl_trans : ∀ (a b c : List Int), kl a b → kl b c → kl a c
 | [], [], _, h, _ => by simp [kl, ordL] at h
 | [], _ :: _, [], _, h => by simp [kl, ordL] at h
 | [], _ :: _, _ :: _, _, _ => by simp [kl, ordL]
 | _ :: _, [], _, h, _ => by simp [kl, ordL] at h
 | _ :: _, _ :: _, [], _, h => by simp [kl, ordL] at h
 | x :: a, y :: b, z :: c, h, g => by
  have ih := kl_trans a b c
  unfold kl at *
  simp only [ordL] at h g ⊢
  by_cases h1 : x < y
  ·by_cases g1 : y < z
   ·rw [if_pos (by omega)]
   ·rw [if_neg g1] at g
    by_cases g2 : z < y
    ·rw [if_pos g2] at g; simp at g
    ·rw [if_pos (by omega)]
  ·rw [if_neg h1] at h
   by_cases h2 : y < x
   ·rw [if_pos h2] at h; simp at h
   ·rw [if_neg h2] at h
    by_cases g1 : y < z
    ·rw [if_pos (by omega)]
    ·rw [if_neg g1] at g
     by_cases g2 : z < y
     ·rw [if_pos g2] at g; simp at g
     ·rw [if_neg g2] at g
      rw [if_neg (by omega), if_neg (by omega)]
      exact ih h g
theorem chk_first {k p : Int} : ∀ {q : List Int} {cs : List Cl}, chk k p (some q) cs = 0 → ∀ c ∈ cs, kl q c.key
 | _, [], _, c, hc => by cases hc
 | q, d :: r, h, c, hc => by
  unfold chk at h
  split at h
  ·split at h
   ·next h2 =>
    rcases List.mem_cons.1 hc with e | e
    ·rw [e]; exact h2
    ·exact kl_trans _ _ _ h2 (chk_first h c e)
   ·simp at h
  ·simp at h
theorem chk_rise {k p : Int} : ∀ {pr : Option (List Int)} {cs : List Cl}, chk k p pr cs = 0 → ∀ (i j : Nat) (c d : Cl), i < j → cs[i]? = some c → cs[j]? = some d → kl c.key d.key
 | _, [], _, i, j, c, d, _, hc, _ => by simp at hc
 | pr, e :: r, h, 0, j + 1, c, d, _, hc, hd => by
  unfold chk at h
  split at h
  ·split at h
   ·simp at hc
    subst hc
    exact chk_first h d (List.mem_of_getElem? (by simpa using hd))
   ·simp at h
  ·simp at h
 | pr, e :: r, h, i + 1, j + 1, c, d, hij, hc, hd => by
  unfold chk at h
  split at h
  ·split at h
   ·exact chk_rise h i j c d (by omega) (by simpa using hc) (by simpa using hd)
   ·simp at h
  ·simp at h
 | _, _ :: _, _, i, 0, _, _, hij, _, _ => by omega
theorem key_at (cs : List Cl) (i : Nat) (c : Cl) (h : cs[i]? = some c) (hf : c.fit) : ∃ r, zap ((bdy cs).drop ((bdy (cs.take i)).length + 1)) = some (c.key, r) := by
 obtain ⟨hi, e⟩ := zH.1 h
 have hd : (bdy cs).drop (bdy (cs.take i)).length = cB c ++ bdy (cs.drop (i + 1)) := by
  rw [bdy_drop, List.drop_eq_getElem_cons hi, e, zbu]
 rw [← List.drop_drop, hd, cB]
 simp only [List.cons_append, List.nil_append, List.drop_succ_cons, List.drop_zero, zM]
 exact ⟨_, pText_mid _ _ hf.key⟩
theorem keyAt_any (w : World) (a : Nat) (k : Int) (n : Nat) (bo : Option Addr) (bn bc : Nat) (so : Option Addr) (sn sc : Nat) (cs : List Cl) (h : PgAt w a k n bo bn bc so sn sc cs) (hfit : ∀ c ∈ cs, c.fit) (i : Nat) (c : Cl) (hci : cs[i]? = some c) (hsz : bn ≤ 65536) :
  Calls Tryz.prog 226 #[.pointer (some ⟨a, 0, none⟩), .int .i64 (((sts 0 cs).getD i 0 : Nat) : Int)] w fun e w' => ∃ ko kn kc, e = .returned (.slice ko kn kc) ∧ Hid (Sl w' ko kn kc c.key) ∧ Hid (Below w.heap.size w w') := by
 obtain ⟨hi, hce⟩ := zH.1 hci
 obtain ⟨hsn, hbn⟩ := h.sn_eq
 obtain ⟨c0, c1, c2, c3⟩ := h.cells
 rw [zch 0 i cs hi, Nat.zero_add]
 obtain ⟨r, hpt⟩ := key_at cs i c hci (hfit c (List.mem_of_getElem? hci))
 have hle : (bdy (cs.take i)).length + 1 ≤ bn := by
  have h1 := congrArg List.length (bdy_drop cs i)
  rw [List.drop_eq_getElem_cons hi, zbu, zK, zG] at h1
  have h2 := cB_length cs[i]
  have h3 : 2 < ctk cs[i] := by unfold ctk; split <;> omega
  omega
 obtain ⟨st, hst⟩ : ∃ st, (bdy (cs.take i)).length = st := ⟨_, rfl⟩
 rw [hst] at hpt hle ⊢
 obtain ⟨gb, off, rfl⟩ : ∃ gb off, bo = some ⟨gb, off, none⟩ := by
  rcases h.body.hat with h0 | ⟨b, off, e, _⟩
  ·omega
  ·exact ⟨b, off, e⟩
 have HSL := zaa h.body
 have HPT := zaa hpt
 have b1 : (st : Int) ≤ 65536 := by omega
 obtain ⟨st1, hst1⟩ : ∃ st1, st + 1 = st1 := ⟨_, rfl⟩
 have hstI : (st : Int) + 1 = (st1 : Int) := by omega
 rw [hst1] at HPT hle
 have HBN := zaa hbn
 clear h hci hi hce hfit hpt hst hsn hbn hst1
 go_enter Tryz.func226, Tryz.ntmps226
 have HTX : Hid (∀ x, x = w.alloc (.cells #[.slice (some ⟨gb, off, none⟩) bn bc, .int .i64 (st1 : Int), .bool false] 151) → Calls Tryz.prog 159 #[.pointer (some ⟨w.heap.size, 0, none⟩)] x fun e w' => ∃ ko kn kc, e = .returned (.slice ko kn kc) ∧ Hid (Sl w' ko kn kc c.key) ∧ Hid (Below w.heap.size w w')) := by
  refine zaa fun x hx => ?_
  have hbx : Below w.heap.size w x := by rw [hx]; exact zad Br Lr _
  have hrd : Rd x w.heap.size (some ⟨gb, off, none⟩) bn bc st1 false := by rw [hx]; exact heap_alloc_last w _
  refine (text_any (bdy cs) x w.heap.size gb off bn bc st1 false hrd (HSL.out.on Lr hbx) hle).mono ?_
  rintro e w' ⟨ko, kn, kc, p, en', t, rfl, _, HC, HQ⟩
  obtain ⟨hs, _, _, hcase⟩ := HQ.out
  rw [HPT.out] at hcase
  rcases hcase with ⟨h1, _⟩ | ⟨h1, _⟩
  ·injection h1 with h1
   injection h1 with h2 _
   subst h2
   exact ⟨ko, kn, kc, rfl, zaa hs, zaa (hbx.trans (HC.out.below hbx.size (by intro i hi e; omega)))⟩
  ·cases h1
 go_wp2_with (go_at_call 159; refine (HTX.out _ rfl).mono ?_; rintro e w2 ⟨ko, kn, kc, rfl, HS2, HB2⟩)
 go_ret
 exact ⟨ko, kn, kc, rfl, HS2, HB2⟩
theorem find1_any (w : World) (a bx : Nat) (k : Int) (n : Nat) (bo : Option Addr) (bn bc : Nat) (so : Option Addr) (sn sc : Nat) (cs : List Cl) (h : PgAt w a k n bo bn bc so sn sc cs) (hfit : ∀ c ∈ cs, c.fit) (i : Nat) (c : Cl) (hci : cs[i]? = some c) (hsz : bn ≤ 65536) (qo : Option Addr) (qn qc : Nat) (q : List Int) (hq : Sl w qo qn qc q) (hbx : w.cell? ⟨bx, 0, none⟩ = some (.pointer (some ⟨a, 0, none⟩))) :
  Calls Tryz.prog 225 #[.int .i64 (((sts 0 cs).getD i 0 : Nat) : Int), .slice qo qn qc, .pointer (some ⟨bx, 0, none⟩)] w fun e w' => e = .returned (.int .i64 (ordL c.key q)) ∧ Hid (Below w.heap.size w w') := by
 have HK := zaa (keyAt_any w a k n bo bn bc so sn sc cs h hfit i c hci hsz)
 have HQ := zaa hq
 generalize (((sts 0 cs).getD i 0 : Nat) : Int) = st at *
 clear h hq
 go_enter Tryz.func225, Tryz.ntmps225
 go_wp2_with (first | (go_at_call 226; refine HK.out.mono ?_; rintro e w2 ⟨ko, kn, kc, rfl, HS2, HB2⟩) | (go_at_call 111; refine zac (compare_any _ _ _ _ _ _ c.key q _ HS2.out (HQ.out.on Lr HB2.out)) ?_))
 go_ret
 exact ⟨rfl, HB2⟩
end Go.Proofs.YtbkhjeacmmbabaaGreatDoor
