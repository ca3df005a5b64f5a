import Derived.Test.YtofafbmpbkjhnaaGreatDoorJ38
namespace Go.Proofs.YtofafbmpbkjhnaaGreatDoor
set_option maxRecDepth 100000
open Go.RowKit
theorem Row6.take {w : World} {G : Nat} : ∀ {vs : List Value} {cs : List Cl} (i : Nat), Row6 w G vs cs → Row6 w G (vs.take (i * 6)) (cs.take i)
 | vs, [], i, h => by
  unfold Row6 at h
  subst h
  simp [Row6]
 | vs, c :: r, 0, h => by simp [Row6]
 | vs, c :: r, i + 1, h => by
  obtain ⟨ho, hn, hc, ko, kn, kc, vo, vn, vc, h', key, t, rfl, h1, h2⟩ := h
  have ih := Row6.take i h2
  rw [show (i + 1) * 6 = i * 6 + 1 + 1 + 1 + 1 + 1 + 1 by omega]
  simp only [List.take_succ_cons]
  exact ⟨ho, hn, hc, ko, kn, kc, vo, vn, vc, h', key, _, rfl, h1, ih⟩
theorem Row6.drop {w : World} {G : Nat} : ∀ {vs : List Value} {cs : List Cl} (i : Nat), Row6 w G vs cs → Row6 w G (vs.drop (i * 6)) (cs.drop i)
 | vs, [], i, h => by
  unfold Row6 at h
  subst h
  simp [Row6]
 | vs, c :: r, 0, h => by simpa using h
 | vs, c :: r, i + 1, h => by
  obtain ⟨ho, hn, hc, ko, kn, kc, vo, vn, vc, h', key, t, rfl, h1, h2⟩ := h
  have ih := Row6.drop i h2
  rw [show (i + 1) * 6 = i * 6 + 1 + 1 + 1 + 1 + 1 + 1 by omega]
  simp only [List.drop_succ_cons]
  exact ih
theorem SlE.row6 {u : World} {g sn : Nat} {cs : List Cl} (hE : SlE u g (some ⟨g, 0, none⟩) sn sn cs) (hR : zag u g sn) : ∃ xs, Row6 u g xs cs ∧ OwE u g sn xs := by
 have hlen := hE.hlen
 obtain ⟨vs, hvs, hcv⟩ := row6_of (w := u) (G := g) (b := g) cs 0 (by
  intro i d hd
  rcases hE.hat with h0 | ⟨b', off', e, _, hc⟩
  ·have := (zH.1 hd).1
   omega
  ·injection e with e
   injection e with e1 e2
   subst e1 e2
   exact hc i d hd)
 exact ⟨vs, hvs, hR, by rw [hvs.len, hlen], fun j x hx => by have := hcv j x hx; rwa [Nat.zero_add] at this, hvs.one⟩
theorem SlE.of6 {u w' : World} {g q m c' : Nat} {xs : List Value} {ds : List Cl} (hr : Row6 u g xs ds) (hB : Below g u w') (hm : ds.length = m) (hc : m ≤ c') (hmm : m ≤ 65536) (hq : q < w'.heap.size) (hx : ∀ j v, xs[j]? = some v → w'.cell? ⟨q, j, none⟩ = some v) : SlE w' g (some ⟨q, 0, none⟩) m c' ds :=
 ⟨hm, hc, by omega, (by intro h; cases h), .inr ⟨q, 0, rfl, hq, Row6.eat hB 0 hr fun j x hj => by rw [Nat.zero_add]; exact hx j x hj⟩⟩
theorem row6_one {u : World} {g b : Nat} {c : Cl} {ka va : Option Addr} {kc vc : Nat} (hb : E6 u b (.slice none 0 0) (.slice ka c.key.length kc) (.int .i64 c.kd) (.slice va c.val.length vc) (.int .i64 c.pg) (.int .i64 c.ct)) (hk : Sl u ka c.key.length kc c.key) (hv : Sl u va c.val.length vc c.val) (lk : Lo g ka c.key.length) (lv : Lo g va c.val.length) :
  ∃ us, Row6 u g us [c] ∧ us.length = 6 ∧ (∀ v ∈ us, v.oneCell' = true) ∧ ∀ j x, us[j]? = some x → u.cell? ⟨b, j, none⟩ = some x := by
 obtain ⟨us, hus, hcu⟩ : ∃ us, Row6 u g us [c] ∧ ∀ j x, us[j]? = some x → u.cell? ⟨b, 0 + j, none⟩ = some x := row6_of [c] 0 (by
  intro i d hd
  have hi : i = 0 := by have := (zH.1 hd).1; simpa using this
  subst hi
  simp at hd
  subst hd
  obtain ⟨e0, e1, e2, e3, e4, e5⟩ := hb.cells
  exact ⟨none, 0, 0, ka, c.key.length, kc, va, c.val.length, vc, [], c.key, e0, e1, e2, e3, e4, e5, Sl.nil_any _ _ _ (fun _ => rfl), hk, hv, rfl, .inl rfl, lk, lv⟩)
 exact ⟨us, hus, by rw [hus.len]; rfl, hus.one, fun j x hx => by have := hcu j x hx; rwa [Nat.zero_add] at this⟩
theorem repE_ins (u : World) (g sn i : Nat) (xs ys : List Value) (h : OwE u g sn xs) (hi : i < sn) (hsn : sn ≤ 65535) (b bc : Nat) (hy : ys.length = 6) (hyo : ∀ v ∈ ys, v.oneCell' = true) (hyc : ∀ j v, ys[j]? = some v → u.cell? ⟨b, j, none⟩ = some v) :
  Calls Tryz.prog 292 #[.slice (some ⟨g, 0, none⟩) sn sn, .int .i64 (i : Int), .int .i64 (i : Int), .slice (some ⟨b, 0, none⟩) 1 bc] u fun e w' => ∃ g' c', e = .returned (.slice (some ⟨g', 0, none⟩) (sn + 1) c') ∧ Hid ((u.heap.size ≤ g' ∧ sn + 1 ≤ c') ∧ ∀ j v, (xs.take (i * 6) ++ ys ++ xs.drop (i * 6))[j]? = some v → w'.cell? ⟨g', j, none⟩ = some v) ∧ Hid (Below u.heap.size u w') := by
 have HI := zaa (insE_mid u g sn i xs ys h hi hsn b bc hy hyo hyc)
 have hiI : (i : Int) ≤ (sn : Int) := by omega
 have h5 : i ≤ sn := by omega
 have h8 : ¬ sn = i := by omega
 clear h hy hyo hyc
 go_enter Tryz.func292, Tryz.ntmps292
 go_wp2_with (go_at_call 294; refine HI.out.mono ?_; rintro e w1 ⟨g', c', rfl, HS, HB⟩)
 go_ret
 exact ⟨g', c', rfl, HS, HB⟩
theorem repE_all (u : World) (g sn : Nat) (cs : List Cl) (c : Cl) (hE : SlE u g (some ⟨g, 0, none⟩) sn sn cs) (hR : zag u g sn) (hsn : sn ≤ 65535) (i j : Nat) (hij : j = i ∨ j = i + 1) (hj : j ≤ sn) (b : Nat) (ka va : Option Addr) (kc vc : Nat) (hb : E6 u b (.slice none 0 0) (.slice ka c.key.length kc) (.int .i64 c.kd) (.slice va c.val.length vc) (.int .i64 c.pg) (.int .i64 c.ct)) (hk : Sl u ka c.key.length kc c.key) (hv : Sl u va c.val.length vc c.val) (lk : Lo g ka c.key.length) (lv : Lo g va c.val.length) :
  Calls Tryz.prog 292 #[.slice (some ⟨g, 0, none⟩) sn sn, .int .i64 (i : Int), .int .i64 (j : Int), .slice (some ⟨b, 0, none⟩) 1 1] u fun e w' => ∃ ao m c', e = .returned (.slice ao m c') ∧ Hid (SlE w' g ao m c' (spl cs i j c)) ∧ Hid (Below g u w') := by
 have hlen := hE.hlen
 have hgl := hR.lt
 by_cases hend : i = sn
 ·obtain rfl : j = i := by omega
  subst hend
  refine (repE_any u g j cs c hE hR hsn b ka va kc vc hb hk hv lk lv).mono ?_
  rintro e w' ⟨ao, c', rfl, HS, HB⟩
  refine ⟨ao, _, c', rfl, zaa ?_, HB⟩
  have e : spl cs j j c = cs ++ [c] := by
   unfold spl
   rw [List.take_of_length_le (by omega), List.drop_of_length_le (by omega), List.append_nil]
  rw [e]
  exact HS.out
 ·obtain ⟨xs, hx6, hxo⟩ := hE.row6 hR
  obtain ⟨ys, hy6, hyl, hyo, hyc⟩ := row6_one hb hk hv lk lv
  have h6 : Row6 u g (xs.take (i * 6) ++ ys ++ xs.drop (j * 6)) (spl cs i j c) := Row6.append (hx6.drop j) (Row6.append hy6 (hx6.take i))
  have hsl := zdk cs i j c (by omega)
  rcases hij with e | e
  ·subst e
   refine (repE_ins u g sn j xs ys hxo (by omega) hsn b 1 hyl hyo hyc).mono ?_
   rintro e w' ⟨g', c', rfl, HS, HB⟩
   obtain ⟨⟨h1, hcc⟩, h2⟩ := HS.out
   have hB : Below g u w' := HB.out.mono (by omega)
   have hlt : g' < w'.heap.size := by
    have h3 := h2 0
    obtain ⟨v, hv0⟩ : ∃ v, (xs.take (j * 6) ++ ys ++ xs.drop (j * 6))[0]? = some v := ⟨_, zI (by rw [h6.len, hsl]; omega)⟩
    exact World.block_lt_of_cell? w' ⟨g', 0, none⟩ (by rw [h3 v hv0])
   exact ⟨_, _, c', rfl, zaa (SlE.of6 h6 hB (by omega) hcc (by omega) hlt h2), zaa hB⟩
  ·refine (repE_one u g sn i j xs ys hxo e.symm hj hsn b 1 hyl hyo hyc).mono ?_
   rintro e' w' ⟨rfl, HO, HC⟩
   have hB : Below g u w' := HC.out.below (Nat.le_of_lt hgl) (fun k hk e => by omega)
   exact ⟨_, _, _, rfl, zaa (SlE.of6 h6 hB (by omega) Lr (by omega) HO.out.row.lt HO.out.at_), zaa hB⟩
end Go.Proofs.YtofafbmpbkjhnaaGreatDoor
