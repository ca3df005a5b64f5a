/- PackedLists: the law's list of cells, and its put. -/
import Derived.Test.YtbefpojdopfeeaaGreatDoorJ11
import Derived.Test.YtbefpojdopfeeaaGreatDoorJ22
import Derived.Test.YtbefpojdopfeeaaGreatDoorJ38
import Derived.Test.YtbefpojdopfeeaaGreatDoorJ42
import Derived.Test.YtbefpojdopfeeaaGreatDoorJ43
import Derived.Test.YtbefpojdopfeeaaGreatDoorJ44
import Derived.Test.YtbefpojdopfeeaaGreatDoorJ46
namespace Go.Proofs.YtbefpojdopfeeaaGreatDoor
open Go.RowKit

/-- THE SLICE VALUE v OWNS THE CELLS cs, in a block from B on; their keys and values are w0's. -/
def OwK (w0 : World) (B : Nat) (w : World) (v : Value) (cs : List Cl) : Prop := ∃ vs, w.ownsRow B 39 5 v cs.length vs ∧ Row5 w0 vs cs
set_option maxRecDepth 100000 in
theorem OwK.nil (w0 : World) (B : Nat) (w : World) : OwK w0 B w (.slice none 0 0) [] := ⟨[], World.ownsRow_nil _ _ _ _, rfl⟩
set_option maxRecDepth 100000 in
theorem OwK.keep {w0 w w' : World} {B : Nat} {v : Value} {cs : List Cl} {K : Nat → Prop} (h : OwK w0 B w v cs) (hc : Cf K w w') (hk : ∀ g, v.ownBlock = some g → ¬ K g) : OwK w0 B w' v cs := by
  obtain ⟨vs, h1, h2⟩ := h
  refine ⟨vs, ⟨h1.1, ?_⟩, h2⟩
  rcases h1.2 with h3 | ⟨g, cap, cur, e, hg, hh, r⟩
  · exact .inl h3
  · exact .inr ⟨g, cap, cur, e, hg, (hc.block g (lt_some hh) (hk g (by rw [e]; rfl))).trans hh, r⟩
set_option maxRecDepth 100000 in
theorem OwK.go {w0 w w' : World} {B : Nat} {v : Value} {cs : List Cl} (h : OwK w0 B w v cs) (hb : Below w.heap.size w w') : OwK w0 B w' v cs := h.keep (K := fun _ => False) (Cf.of_below hb) (fun _ _ e => e)
set_option maxRecDepth 100000 in
theorem OwK.blk {w0 w : World} {B : Nat} {v : Value} {cs : List Cl} (h : OwK w0 B w v cs) {g : Nat} (e : v.ownBlock = some g) : B ≤ g ∧ g < w.heap.size := by
  obtain ⟨vs, h1, _⟩ := h
  exact h1.lt g e
set_option maxRecDepth 100000 in
theorem OwK.low {w0 w : World} {B C : Nat} {v : Value} {cs : List Cl} (h : OwK w0 B w v cs) (hC : C ≤ B) : OwK w0 C w v cs := by
  obtain ⟨vs, h1, h2⟩ := h
  refine ⟨vs, ⟨h1.1, ?_⟩, h2⟩
  rcases h1.2 with h3 | ⟨g, cap, cur, e, hg, r⟩
  · exact .inl h3
  · exact .inr ⟨g, cap, cur, e, Nat.le_trans hC hg, r⟩
/-- The slice value reads as the cells cs; their keys and values are w0's. -/
structure SrK (w0 w : World) (ao : Option Addr) (n cap : Nat) (cs : List Cl) : Prop where
  hlen : cs.length = n
  hcap : n ≤ cap
  hnil : ao = none → cap = 0
  hat : n = 0 ∨ ∃ b off us, ao = some ⟨b, off, none⟩ ∧ b < w.heap.size ∧ Row5 w0 us cs ∧ ∀ j u, us[j]? = some u → w.cell? ⟨b, off + j, none⟩ = some u
set_option maxRecDepth 100000 in
theorem SrK.on {w0 w w' : World} {ao : Option Addr} {n cap : Nat} {cs : List Cl} (h : SrK w0 w ao n cap cs) (hb : Below w.heap.size w w') : SrK w0 w' ao n cap cs := by
  refine ⟨h.hlen, h.hcap, h.hnil, ?_⟩
  rcases h.hat with h0 | ⟨b, off, us, e, hlt, hr, hc⟩
  · exact .inl h0
  · exact .inr ⟨b, off, us, e, Nat.lt_of_lt_of_le hlt hb.size, hr, fun j u hu => (hb.cell (p := ⟨b, off + j, none⟩) hlt).trans (hc j u hu)⟩
set_option maxRecDepth 100000 in
theorem OwK.src {w0 w : World} {B : Nat} {v : Value} {cs : List Cl} (h : OwK w0 B w v cs) : ∃ ao cap, v = .slice ao cs.length cap ∧ SrK w0 w ao cs.length cap cs ∧ (0 < cs.length → ∃ g, ao = some ⟨g, 0, none⟩) := by
  obtain ⟨vs, h1, h2⟩ := h
  rcases h1.2 with ⟨rfl, h0⟩ | ⟨g, cap, cur, rfl, hg, hh, hnc, hm, hs, ht⟩
  · rw [h0]
    exact ⟨none, 0, rfl, ⟨h0, Nat.le_refl _, fun _ => rfl, .inl rfl⟩, fun h => absurd h (by omega)⟩
  · refine ⟨_, cap, rfl, ⟨rfl, hnc, (by intro h; cases h), .inr ⟨g, 0, vs, rfl, lt_some hh, h2, fun j u hu => ?_⟩⟩, fun _ => ⟨g, rfl⟩⟩
    have := World.ownsRow.cells h1 (g := g) rfl j u hu
    simpa [Addr.add_lit] using this
set_option maxRecDepth 100000 in
theorem SrK.slc {w0 w : World} {ao : Option Addr} {n cap : Nat} {cs : List Cl} (h : SrK w0 w ao n cap cs) (hb : Below w0.heap.size w0 w) (hl : n ≤ 140737488355328) : SlC w ao n cap cs := by
  refine ⟨h.hlen, h.hcap, hl, h.hnil, ?_⟩
  rcases h.hat with h0 | ⟨b, off, us, e, hlt, hr, hc⟩
  · exact .inl h0
  · exact .inr ⟨b, off, e, hlt, Row5.cat hb off hr hc⟩
set_option maxRecDepth 100000 in
theorem Row5.take {w : World} : ∀ {vs : List Value} {cs : List Cl} (i : Nat), Row5 w vs cs → Row5 w (vs.take (i * 5)) (cs.take i)
  | vs, [], i, h => by
    unfold Row5 at h
    subst h
    simp [Row5]
  | vs, c :: r, 0, h => by simp [Row5]
  | vs, c :: r, i + 1, h => by
    obtain ⟨ka, kc, va, vc, t, rfl, h1, h2, h3⟩ := h
    have ih := Row5.take i h3
    rw [show (i + 1) * 5 = i * 5 + 1 + 1 + 1 + 1 + 1 by omega]
    simp only [List.take_succ_cons]
    exact ⟨ka, kc, va, vc, _, rfl, h1, h2, ih⟩
set_option maxRecDepth 100000 in
theorem Row5.drop {w : World} : ∀ {vs : List Value} {cs : List Cl} (i : Nat), Row5 w vs cs → Row5 w (vs.drop (i * 5)) (cs.drop i)
  | vs, [], i, h => by
    unfold Row5 at h
    subst h
    simp [Row5]
  | vs, c :: r, 0, h => by simpa using h
  | vs, c :: r, i + 1, h => by
    obtain ⟨ka, kc, va, vc, t, rfl, h1, h2, h3⟩ := h
    have ih := Row5.drop i h3
    rw [show (i + 1) * 5 = i * 5 + 1 + 1 + 1 + 1 + 1 by omega]
    simp only [List.drop_succ_cons]
    exact ih
set_option maxRecDepth 100000 in
theorem SrK.take {w0 w : World} {ao : Option Addr} {n cap : Nat} {cs : List Cl} (h : SrK w0 w ao n cap cs) (i : Nat) (hi : i ≤ n) : SrK w0 w ao i cap (cs.take i) := by
  have hl := h.hlen
  refine ⟨by rw [List.length_take]; omega, Nat.le_trans hi h.hcap, h.hnil, ?_⟩
  rcases h.hat with h0 | ⟨b, off, us, e, hlt, hr, hc⟩
  · exact .inl (by omega)
  · exact .inr ⟨b, off, _, e, hlt, hr.take i, fun j u hu => hc j u (by rw [List.getElem?_take] at hu; split at hu <;> first | exact hu | cases hu)⟩
set_option maxRecDepth 100000 in
theorem Row5.item {w : World} : ∀ {vs : List Value} {cs : List Cl} (i : Nat) (c : Cl), Row5 w vs cs → cs[i]? = some c → ∃ ka kc va vc, vs[i * 5]? = some (.slice ka c.key.length kc) ∧ vs[i * 5 + 1]? = some (.int .i64 c.kd) ∧ vs[i * 5 + 2]? = some (.slice va c.val.length vc) ∧ vs[i * 5 + 3]? = some (.int .i64 c.pg) ∧ vs[i * 5 + 4]? = some (.int .i64 c.ct) ∧ Sl w ka c.key.length kc c.key ∧ Sl w va c.val.length vc c.val
  | vs, [], i, c, h, hi => by simp at hi
  | vs, d :: r, 0, c, h, hi => by
    obtain ⟨ka, kc, va, vc, t, rfl, h1, h2, h3⟩ := h
    simp at hi
    subst hi
    exact ⟨ka, kc, va, vc, rfl, rfl, rfl, rfl, rfl, h1, h2⟩
  | vs, d :: r, i + 1, c, h, hi => by
    obtain ⟨ka, kc, va, vc, t, rfl, h1, h2, h3⟩ := h
    obtain ⟨ka', kc', va', vc', e0, e1, e2, e3, e4, s1, s2⟩ := Row5.item i c h3 (by simpa using hi)
    rw [show (i + 1) * 5 = i * 5 + 1 + 1 + 1 + 1 + 1 by omega]
    simp only [List.getElem?_cons_succ]
    exact ⟨ka', kc', va', vc', e0, e1, e2, e3, e4, s1, s2⟩
set_option maxRecDepth 100000 in
theorem SrK.item {w0 w : World} {ao : Option Addr} {n cap : Nat} {cs : List Cl} (h : SrK w0 w ao n cap cs) (i : Nat) (hi : i < n) : ∃ b off c ka kc va vc, ao = some ⟨b, off, none⟩ ∧ b < w.heap.size ∧ cs[i]? = some c ∧
    w.cell? ⟨b, off + i * 5, none⟩ = some (.slice ka c.key.length kc) ∧ w.cell? ⟨b, off + i * 5 + 1, none⟩ = some (.int .i64 c.kd) ∧ w.cell? ⟨b, off + i * 5 + 2, none⟩ = some (.slice va c.val.length vc) ∧ w.cell? ⟨b, off + i * 5 + 3, none⟩ = some (.int .i64 c.pg) ∧ w.cell? ⟨b, off + i * 5 + 4, none⟩ = some (.int .i64 c.ct) ∧ Sl w0 ka c.key.length kc c.key ∧ Sl w0 va c.val.length vc c.val := by
  have hl := h.hlen
  rcases h.hat with h0 | ⟨b, off, us, e, hlt, hr, hc⟩
  · omega
  · obtain ⟨c, hci⟩ : ∃ c, cs[i]? = some c := ⟨_, List.getElem?_eq_getElem (by omega)⟩
    obtain ⟨ka, kc, va, vc, e0, e1, e2, e3, e4, s1, s2⟩ := hr.item i c hci
    exact ⟨b, off, c, ka, kc, va, vc, e, hlt, hci, hc _ _ e0, by have := hc _ _ e1; rwa [← Nat.add_assoc] at this, by have := hc _ _ e2; rwa [← Nat.add_assoc] at this, by have := hc _ _ e3; rwa [← Nat.add_assoc] at this, by have := hc _ _ e4; rwa [← Nat.add_assoc] at this, s1, s2⟩
set_option maxRecDepth 100000 in
/-- One cell in a row of its own, just made. -/
theorem five_at {w : World} {y : World} {x0 x1 x2 x3 x4 : Value} (hy : w.alloc (.cells #[x0, x1, x2, x3, x4] 39) = y) : ∀ (j : Nat) (u : Value), ([x0, x1, x2, x3, x4] : List Value)[j]? = some u → y.cell? ⟨w.heap.size, 0 + j, none⟩ = some u := by
  obtain ⟨f0, f1, f2, f3, f4⟩ := (C5.box w x0 x1 x2 x3 x4).cells
  rw [hy] at f0 f1 f2 f3 f4
  intro j u hu
  have hj5 : j < 5 := (List.getElem?_eq_some_iff.1 hu).1
  have hj' : j = 0 ∨ j = 1 ∨ j = 2 ∨ j = 3 ∨ j = 4 := by omega
  rcases hj' with rfl | rfl | rfl | rfl | rfl <;> (simp only [List.getElem?_cons_zero, List.getElem?_cons_succ, Option.some.injEq] at hu; subst hu; assumption)
set_option maxRecDepth 100000 in
/-- 'append(m, c)', m the call's own or nil. -/
theorem app_k {ops : Array Oper} {rest : List Oper} {o : Oper} {a : Act} {Q : Exit → Act → World → Prop} (w0 w : World) (B : Nat) (hgd : o.guard = none) (s x : Operand)
    (ho : o.op = .call { callee := .builtin .append, args := #[s, x], argTypes := #[43, 43] }) (cs : List Cl) (c : Cl) (v : Value) (g : Nat) (us : List Value) (hs : a.eval s = v) (hx : a.eval x = .slice (some ⟨g, 0, none⟩) 1 1)
    (hown : OwK w0 B w v cs) (hr : Row5 w0 us [c]) (hc : ∀ j u, us[j]? = some u → w.cell? ⟨g, 0 + j, none⟩ = some u) (hb : cs.length + 1 ≤ 1000000) (hbase : B ≤ w.heap.size)
    (h : ∀ v' w', Hid (OwK w0 B w' v' (cs ++ [c])) → Hid (Below B w w') → wpList Tryz.prog ops Q rest (a.put o.dst v') w') : wpList Tryz.prog ops Q (o :: rest) a w := by
  obtain ⟨i0, hi, hz0, hz1, hz2⟩ := info_parts infoC
  obtain ⟨vs, h1, h2⟩ := hown
  refine wpList_append_own_at w hgd s x 43 ho B 39 i0 _ 5 72 Tryz.underlying43 hi hz0 hz1 hz2 rfl (by decide) v cs.length vs hs h1 ⟨g, 0, none⟩ 1 1 us hx (by rw [hr.len]; rfl)
    (fun j u hu => by
      rw [Addr.add_lit]
      exact hc j u hu) hr.one (by unfold maxLen; omega) (by omega) hbase ?_
  intro v' w' g1 g2 _ _
  refine h v' w' (hidden ⟨vs ++ us, ?_, Row5.append hr h2⟩) (hidden (own_below h1 hbase g2))
  rw [List.length_append]
  exact g1
set_option maxRecDepth 100000 in
theorem take_snocC (cs : List Cl) (j : Nat) (c : Cl) (h : cs[j]? = some c) : cs.take (j + 1) = cs.take j ++ [c] := by rw [List.take_add_one, h]; rfl
set_option maxRecDepth 100000 in
set_option maxHeartbeats 4000000 in
/-- The law's put. -/
theorem lput_any (w0 w : World) (ao : Option Addr) (n cap : Nat) (cs : List Cl) (hs : SrK w0 w ao n cap cs) (hn : n ≤ 65536) (i d j : Nat) (hi : i ≤ n) (hij : i + d = j) (hd : d ≤ 1)
    (c : Cl) (ka va : Option Addr) (kc vc : Nat) (hk : Sl w0 ka c.key.length kc c.key) (hv : Sl w0 va c.val.length vc c.val) :
    Calls Tryz.prog 11 #[.slice ao n cap, .int .i64 (i : Int), .agg #[.slice ka c.key.length kc, .int .i64 c.kd, .slice va c.val.length vc, .int .i64 c.pg, .int .i64 c.ct], .int .i64 (d : Int)] w fun e w' => ∃ v, e = .returned v ∧ Hid (OwK w0 w.heap.size w' v (spl cs i j c)) ∧ Hid (Below w.heap.size w w') := by
  obtain ⟨x, hx⟩ : ∃ x, w.alloc (.cells #[.slice ka c.key.length kc, .int .i64 c.kd, .slice va c.val.length vc, .int .i64 c.pg, .int .i64 c.ct] 39) = x := ⟨_, rfl⟩
  have hbx : Below w.heap.size w x := by rw [← hx]; exact bl_al (Below.refl _ _) (Nat.le_refl _) _
  have HC5 : Hid (C5 x w.heap.size (.slice ka c.key.length kc) (.int .i64 c.kd) (.slice va c.val.length vc) (.int .i64 c.pg) (.int .i64 c.ct) ∧ w.heap.size < x.heap.size) := hidden (by rw [← hx]; exact ⟨C5.box _ _ _ _ _ _, by simp⟩)
  have HS := hidden hs
  have HBX := hidden hbx
  have HRC : Hid (Row5 w0 [.slice ka c.key.length kc, .int .i64 c.kd, .slice va c.val.length vc, .int .i64 c.pg, .int .i64 c.ct] [c]) := hidden ⟨ka, kc, va, vc, [], rfl, hk, hv, rfl⟩
  have HLN := hidden hs.hlen
  have iI : (i : Int) ≤ 65536 := by omega
  have nI : (n : Int) ≤ 65536 := by omega
  have dI : (d : Int) ≤ 1 := by omega
  have jI : (i : Int) + (d : Int) = (j : Int) := by omega
  have jB : (j : Int) ≤ 65537 := by omega
  have HIJ : Hid (i + d = j ∧ d ≤ 1) := hidden ⟨hij, hd⟩
  clear hs hk hv hbx hij hd
  go_enter Tryz.func11, Tryz.ntmps11
  go_wp2_with fail
  go_loopw [9, 10] (fun o kv wr => ∃ (q : Nat) (ov : Value), ov = o ∧ q ≤ i ∧ kv = .int .i64 (q : Int) ∧ Hid (OwK w0 x.heap.size wr ov (cs.take q)) ∧ Hid (Below x.heap.size x wr)) (fun _ kv _ => i - (intOf kv).toNat)
  case atStart => exact ⟨0, _, rfl, by omega, rfl, hidden (OwK.nil _ _ _), hidden (Below.refl _ _)⟩
  case round =>
    obtain ⟨q, ov, rfl, hq, rfl, HO, HB⟩ := hrel
    have qI : (q : Int) ≤ 65536 := by omega
    have HSR : Hid (SrK w0 wr ao n cap cs) := hidden (HS.out.on (bl_go HBX.out (Nat.le_refl _) HB.out))
    by_cases hlt : q < i
    · have hltI : (q : Int) < (i : Int) := by omega
      have hqnI : (q : Int) < (n : Int) := by omega
      obtain ⟨b, off, e, ka', kc', va', vc', rfl, hb', hci, d0, d1, d2, d3, d4, hk', hv'⟩ := HSR.out.item q (by omega)
      have HRO : Hid (Row5 w0 [.slice ka' e.key.length kc', .int .i64 e.kd, .slice va' e.val.length vc', .int .i64 e.pg, .int .i64 e.ct] [e]) := hidden ⟨ka', kc', va', vc', [], rfl, hk', hv', rfl⟩
      have HCI := hidden hci
      obtain ⟨kn, hkn⟩ : ∃ kn, e.key.length = kn := ⟨_, rfl⟩
      obtain ⟨vn, hvn⟩ : ∃ vn, e.val.length = vn := ⟨_, rfl⟩
      obtain ⟨kd', hkd⟩ : ∃ kd', e.kd = kd' := ⟨_, rfl⟩
      obtain ⟨pg, hpg⟩ : ∃ pg, e.pg = pg := ⟨_, rfl⟩
      obtain ⟨ct, hct⟩ : ∃ ct, e.ct = ct := ⟨_, rfl⟩
      rw [hkn] at d0 HRO
      rw [hkd] at d1 HRO
      rw [hvn] at d2 HRO
      rw [hpg] at d3 HRO
      rw [hct] at d4 HRO
      obtain ⟨y, hy⟩ : ∃ y, wr.alloc (.cells #[.slice ka' kn kc', .int .i64 kd', .slice va' vn vc', .int .i64 pg, .int .i64 ct] 39) = y := ⟨_, rfl⟩
      have hby : Below wr.heap.size wr y := by rw [← hy]; exact bl_al (Below.refl _ _) (Nat.le_refl _) _
      have HOY : Hid (OwK w0 x.heap.size y ov (cs.take q)) := hidden (HO.out.go hby)
      have HBY : Hid (Below x.heap.size x y) := hidden (bl_go HB.out (Nat.le_refl _) hby)
      have HXY := hidden (five_at hy)
      clear hby HO HB hk' hv' hci hkn hvn hkd hpg hct
      go_wp2_with (at_builtin; refine app_k w0 _ x.heap.size rfl _ _ rfl (cs.take q) e ov wr.heap.size _ rfl rfl HOY.out HRO.out HXY.out (by rw [List.length_take]; omega) HBY.out.size ?_; intro v2 u2 HO2 HBU2; refine Hid.out ?_)
      apply hidden
      have HBU : Hid (Below x.heap.size x u2) := hidden (HBY.out.trans HBU2.out)
      rw [← take_snocC cs q e HCI.out] at HO2
      clear HOY HBY HXY HRO hy d0 d1 d2 d3 d4 HBU2
      go_wp2
      go_roundw
      case rel => exact ⟨q + 1, _, rfl, by omega, by go_num, HO2, HBU⟩
      case measure => simp [intOf]; omega
    · obtain rfl : q = i := by omega
      have hltI : ¬ (q : Int) < (q : Int) := by omega
      have HC5R : Hid (C5 wr w.heap.size (.slice ka c.key.length kc) (.int .i64 c.kd) (.slice va c.val.length vc) (.int .i64 c.pg) (.int .i64 c.ct)) := hidden (box_on HC5.out.1 HB.out)
      obtain ⟨z0, z1, z2, z3, z4⟩ := HC5R.out.cells
      obtain ⟨y, hy⟩ : ∃ y, wr.alloc (.cells #[.slice ka c.key.length kc, .int .i64 c.kd, .slice va c.val.length vc, .int .i64 c.pg, .int .i64 c.ct] 39) = y := ⟨_, rfl⟩
      have hby : Below wr.heap.size wr y := by rw [← hy]; exact bl_al (Below.refl _ _) (Nat.le_refl _) _
      have HOY : Hid (OwK w0 x.heap.size y ov (cs.take q)) := hidden (HO.out.go hby)
      have HBY : Hid (Below x.heap.size x y) := hidden (bl_go HB.out (Nat.le_refl _) hby)
      have HXY := hidden (five_at hy)
      clear hby HO HB
      go_wp2_with (at_builtin; refine app_k w0 _ x.heap.size rfl _ _ rfl (cs.take q) c ov wr.heap.size _ rfl rfl HOY.out HRC.out HXY.out (by rw [List.length_take]; omega) HBY.out.size ?_; intro v2 u2 HO2 HBU2; refine Hid.out ?_)
      apply hidden
      have HBU : Hid (Below x.heap.size x u2) := hidden (HBY.out.trans HBU2.out)
      clear HOY HBY HXY hy z0 z1 z2 z3 z4 HBU2 HC5R HSR
      go_wp2_with fail
      go_loopw [9, 11] (fun o kv wr => ∃ (p : Nat) (ov : Value), ov = o ∧ j ≤ p ∧ (p ≤ n ∨ p = j) ∧ kv = .int .i64 (p : Int) ∧ Hid (OwK w0 x.heap.size wr ov (cs.take q ++ [c] ++ (cs.drop j).take (p - j))) ∧ Hid (Below x.heap.size x wr)) (fun _ kv _ => n - (intOf kv).toNat)
      case atStart => exact ⟨j, _, rfl, Nat.le_refl _, .inr rfl, rfl, by rw [Nat.sub_self, List.take_zero, List.append_nil]; exact HO2, HBU⟩
      case round =>
        clear HO2 HBU
        obtain ⟨p, ov, rfl, hjp, hpn, rfl, HO, HB⟩ := hrel
        have pI : (p : Int) ≤ 65537 := by omega
        have HSR : Hid (SrK w0 wr ao n cap cs) := hidden (HS.out.on (bl_go HBX.out (Nat.le_refl _) HB.out))
        by_cases hlt : p < n
        · have hqnI : (p : Int) < (n : Int) := by omega
          obtain ⟨b, off, e, ka', kc', va', vc', rfl, hb', hci, d0, d1, d2, d3, d4, hk', hv'⟩ := HSR.out.item p hlt
          have HRO : Hid (Row5 w0 [.slice ka' e.key.length kc', .int .i64 e.kd, .slice va' e.val.length vc', .int .i64 e.pg, .int .i64 e.ct] [e]) := hidden ⟨ka', kc', va', vc', [], rfl, hk', hv', rfl⟩
          have HCI : Hid (cs.take q ++ [c] ++ (cs.drop j).take (p + 1 - j) = cs.take q ++ [c] ++ (cs.drop j).take (p - j) ++ [e]) := hidden (by
            rw [show p + 1 - j = p - j + 1 by omega, take_snocC (cs.drop j) (p - j) e (by rw [List.getElem?_drop, show j + (p - j) = p by omega]; exact hci), List.append_assoc _ _ [e]])
          obtain ⟨kn, hkn⟩ : ∃ kn, e.key.length = kn := ⟨_, rfl⟩
          obtain ⟨vn, hvn⟩ : ∃ vn, e.val.length = vn := ⟨_, rfl⟩
          obtain ⟨kd', hkd⟩ : ∃ kd', e.kd = kd' := ⟨_, rfl⟩
          obtain ⟨pg, hpg⟩ : ∃ pg, e.pg = pg := ⟨_, rfl⟩
          obtain ⟨ct, hct⟩ : ∃ ct, e.ct = ct := ⟨_, rfl⟩
          rw [hkn] at d0 HRO
          rw [hkd] at d1 HRO
          rw [hvn] at d2 HRO
          rw [hpg] at d3 HRO
          rw [hct] at d4 HRO
          obtain ⟨y, hy⟩ : ∃ y, wr.alloc (.cells #[.slice ka' kn kc', .int .i64 kd', .slice va' vn vc', .int .i64 pg, .int .i64 ct] 39) = y := ⟨_, rfl⟩
          have hby : Below wr.heap.size wr y := by rw [← hy]; exact bl_al (Below.refl _ _) (Nat.le_refl _) _
          have HOY : Hid (OwK w0 x.heap.size y ov (cs.take q ++ [c] ++ (cs.drop j).take (p - j))) := hidden (HO.out.go hby)
          have HBY : Hid (Below x.heap.size x y) := hidden (bl_go HB.out (Nat.le_refl _) hby)
          have HXY := hidden (five_at hy)
          clear hby HO HB hk' hv' hci hkn hvn hkd hpg hct
          go_wp2_with (at_builtin; refine app_k w0 _ x.heap.size rfl _ _ rfl (cs.take q ++ [c] ++ (cs.drop j).take (p - j)) e ov wr.heap.size _ rfl rfl HOY.out HRO.out HXY.out (by simp only [List.length_append, List.length_take, List.length_drop, List.length_cons, List.length_nil]; omega) HBY.out.size ?_; intro v2 u2 HO2 HBU2; refine Hid.out ?_)
          apply hidden
          have HBU : Hid (Below x.heap.size x u2) := hidden (HBY.out.trans HBU2.out)
          rw [← HCI.out] at HO2
          clear HOY HBY HXY HRO hy d0 d1 d2 d3 d4 HBU2
          go_wp2
          go_roundw
          case rel => exact ⟨p + 1, _, rfl, by omega, .inl (by omega), by go_num, HO2, HBU⟩
          case measure => simp [intOf]; omega
        · have hqnI : ¬ (p : Int) < (n : Int) := by omega
          go_wp2
          go_ret
          refine ⟨_, rfl, hidden ?_, hidden (bl_go HBX.out (Nat.le_refl _) HB.out)⟩
          have h1 := HO.out.low HBX.out.size
          have h2 := HLN.out
          have e : (cs.drop j).take (p - j) = cs.drop j := List.take_of_length_le (by rw [List.length_drop]; omega)
          rw [e] at h1
          exact h1
end Go.Proofs.YtbefpojdopfeeaaGreatDoor

/- PackedLists: a page's calls over its state; the law's held. -/

namespace Go.Proofs.YtbefpojdopfeeaaGreatDoor
open Go.RowKit

/-- Len, Kind, Waste, Used, Cell, Find, Near of a page. -/
structure Asks (w : World) (a : Nat) (k : Int) (n : Nat) (s : Qs) : Prop where
  len : Calls Tryz.prog 26 #[.pointer (some ⟨a, 0, none⟩)] w fun e w' => e = .returned (.int .i64 (s.cs.length : Int)) ∧ w' = w
  kind : Calls Tryz.prog 21 #[.pointer (some ⟨a, 0, none⟩)] w fun e w' => e = .returned (.int .i64 k) ∧ w' = w
  waste : Calls Tryz.prog 16 #[.pointer (some ⟨a, 0, none⟩)] w fun e w' => e = .returned (.int .i64 (s.ws : Int)) ∧ w' = w
  used : Calls Tryz.prog 17 #[.pointer (some ⟨a, 0, none⟩)] w fun e w' => e = .returned (.int .i64 ((szQ k s.P.length s.cs : Nat) : Int)) ∧ Hid (Below w.heap.size w w')
  cell : ∀ x : Int, Calls Tryz.prog 58 #[.pointer (some ⟨a, 0, none⟩), .int .i64 x] w (CelQ (cellQ s.cs x) (if 0 ≤ x ∧ x < (s.cs.length : Int) then 0 else 64) w)
  find : ∀ (qo : Option Addr) (qn qc : Nat) (q : List Int), Sl w qo qn qc q → Calls Tryz.prog 25 #[.pointer (some ⟨a, 0, none⟩), .slice qo qn qc] w fun e w' => FindTo s.cs q w e w'
  near : ∀ (qo : Option Addr) (qn qc : Nat) (q : List Int) (hint : Int), Sl w qo qn qc q → Calls Tryz.prog 60 #[.pointer (some ⟨a, 0, none⟩), .slice qo qn qc, .int .i64 hint] w fun e w' => FindTo s.cs q w e w'
set_option maxRecDepth 100000 in
theorem Pk.asks {w : World} {K : Nat → Prop} {a : Nat} {k : Int} {n : Nat} {s : Qs} (h : Pk w K a k n s) (hn : pw n) : Asks w a k n s := by
  have hn2 := pw_nat hn
  obtain ⟨po, pn, pc, bo, bn, bc, so, sn, sc, body, st, hA⟩ := h
  obtain ⟨l1, l2, l3, l4, l5⟩ := hA.lens
  have hpg := hA.pgq hn2.2
  have hfit := hA.ok.fit
  have hfe := filQ_eq k s
  refine ⟨?_, kindW_any w a k n _ _ _ _ hA.pg.row, waste_any w a k n _ _ _ _ hA.pg.row, ?_, fun x => cellQ_any w a k n po pn pc bo bn bc so sn sc _ s.P body st s.cs hpg hA.lay x, fun qo qn qc q hq => findQ_any w a k n po pn pc bo bn bc so sn sc _ s.P body st s.cs hpg hA.lay hA.ok.rs (by omega) (by omega) qo qn qc q hq, fun qo qn qc q hint hq => nearQ_any w a k n po pn pc bo bn bc so sn sc _ s.P body st s.cs hpg hA.lay hA.ok.rs (by omega) (by omega) qo qn qc q hq hint⟩
  · rw [l4]
    exact qlen_any w a k n po pn pc bo bn bc so sn sc _ s.P body st hpg
  · exact usedW_any w a k n po pn pc bo bn bc so sn sc s.ws hA.pg.row (by omega) (by omega) (by omega) (filQ k s) _ (by omega) hfe
set_option maxRecDepth 100000 in
/-- Bytes of a page. -/
theorem Pk.bytes {w : World} {K : Nat → Prop} {a : Nat} {k : Int} {n : Nat} {s : Qs} (h : Pk w K a k n s) (hn : pw n) (hk : isKd k) (ht : Tab w) (h0 : 0 < w.heap.size) :
    Calls Tryz.prog 18 #[.pointer (some ⟨a, 0, none⟩)] w fun e w' => ∃ g, e = .returned (.slice (some ⟨g, 0, none⟩) n n) ∧ Hid (w.heap.size ≤ g ∧ Bk w' g (pkB k n s.cs)) ∧ Hid (Below w.heap.size w w') := by
  have hn2 := pw_nat hn
  have hl := h.ok.lay
  obtain ⟨po, pn, pc, bo, bn, bc, so, sn, sc, body, st, hA⟩ := h
  exact bytesQ_any w a k n po pn pc bo bn bc so sn sc _ s.P body st s.cs (hA.pgq hn2.2) hA.lay hA.ok.rs hk hn hl ht h0
set_option maxRecDepth 100000 in
theorem chk_of {k p : Int} : ∀ (pr : Option (List Int)) (ds : List Cl), (∀ c ∈ ds, mayP k p c) → Rs ds → (∀ c ∈ ds, ahead pr c.key) → chk k p pr ds = 0
  | _, [], _, _, _ => rfl
  | pr, c :: r, h1, h2, h3 => by
    unfold Rs at h2
    rw [List.pairwise_cons] at h2
    unfold chk
    rw [if_pos (h1 c (by simp)), if_pos (h3 c (by simp))]
    exact chk_of (some c.key) r (fun d hd => h1 d (by simp [hd])) h2.2 (fun d hd => h2.1 d hd)
set_option maxRecDepth 100000 in
theorem Qok.isq {k : Int} {n : Nat} {s : Qs} (h : Qok k n s) (hn : pw n) (hk : isKd k) : IsQ k n s.cs (pkB k n s.cs) := ⟨hk, hn, chk_of none s.cs h.may h.rs (fun _ _ => trivial), h.lay, rfl⟩
set_option maxRecDepth 100000 in
theorem Qok.pkwf {k : Int} {n : Nat} {s : Qs} (h : Qok k n s) (hn : pw n) (hk : isKd k) : Wf (pkB k n s.cs) ∧ (pkB k n s.cs).length = n := by
  have hn2 := pw_nat hn
  exact ⟨pkB_wf (by unfold isKd at hk; omega) (fun c hc => ⟨h.wf c hc, (h.may c hc).fit (by omega)⟩), pkB_length _ _ _ h.lay⟩
/-- A page's own blocks, just made. -/
def Kn (w w' : World) : Nat → Prop := fun b => w.heap.size ≤ b ∧ b < w'.heap.size
set_option maxRecDepth 100000 in
/-- Open of a page's bytes. -/
theorem Pk.opened {w : World} {k : Int} {n : Nat} {s : Qs} (h : Qok k n s) (hn : pw n) (hk : isKd k) (ao : Option Addr) (cap : Nat) (hs : Sl w ao n cap (pkB k n s.cs)) (ht : Tab w) (h0 : 0 < w.heap.size) :
    Calls Tryz.prog 19 #[.slice ao n cap] w fun e w' => ∃ a, e = .returned (.tuple #[.pointer (some ⟨a, 0, none⟩), .int .i64 0]) ∧ Hid (Pk w' (Kn w w') a k n ⟨shP k s.cs, s.cs, 0⟩) ∧ Hid (Below w.heap.size w w') := by
  have hn2 := pw_nat hn
  have hi := h.isq hn hk
  obtain ⟨_, r2, r3⟩ := readQ_of hi
  refine (openQ_any8 ao n cap _ w hs ht h0).mono ?_
  rintro e w' ⟨po, c, rfl, HB, HQ⟩
  rcases HQ.out with ⟨_, _, hno⟩ | ⟨a, qo, qn, qc, vb, vs, cs, rfl, rfl, his, hwf, hfr, hpo⟩
  · exact absurd ⟨s.cs, hi.at⟩ hno
  · obtain ⟨_, _, rfl⟩ := hi.one his
    rw [r2, r3] at hpo
    have hf : ∀ c ∈ s.cs, c.fit := fun c hc => (h.may c hc).fit (by omega)
    obtain ⟨bo, bc, rfl⟩ := hpo.ob.shape
    obtain ⟨so, sc, rfl⟩ := hpo.on.shape
    refine ⟨a, rfl, hidden ⟨qo, qn, qc, bo, _, bc, so, _, sc, _, _, ⟨⟨hpo.row, hpo.pre, hpo.ob.low (Nat.zero_le _), ?_, hpo.far, Nat.zero_le _⟩, layQ_of (shP_beg k s.cs) hf, qbd_wf2 hn2.2 h.wf h.may _ _, hfr, ⟨shP_beg k s.cs, h.rs, h.may, h.wf, ?_⟩, ?_, ⟨hpo.ha, lt_some hpo.row⟩, fun g e => hpo.ob.ltk7 e, fun g e => ?_, fun b e => e.2⟩⟩, HB⟩
    · have h6 := hpo.on
      unfold OwnN at h6 ⊢
      rcases h6.2 with h8 | ⟨g, c, cur, e, hg, r⟩
      · exact ⟨h6.1, .inl h8⟩
      · exact ⟨h6.1, .inr ⟨g, c, cur, e, Nat.zero_le _, r⟩⟩
    · rw [filQ_eq]
      exact h.lay
    · unfold lvQ
      simp
    · have h6 := hpo.on
      unfold OwnN at h6
      exact h6.lt g e
set_option maxRecDepth 100000 in
/-- An empty page, just made. -/
theorem Pk.new {w : World} {a : Nat} {k : Int} {n : Nat} (hn : pw n) (h : QR w a k n (.slice none 0 0) (.slice none 0 0) (.slice none 0 0) 0) (B : Nat) (hB : B ≤ a) : Pk w (fun b => B ≤ b ∧ b < w.heap.size) a k n ⟨[], [], 0⟩ := by
  have hn2 := pw_nat hn
  refine ⟨none, 0, 0, none, 0, 0, none, 0, 0, [], [], ⟨⟨h, Sl.nil_any _ _ _ (fun _ => rfl), OwnB.nil _ _, OwnN.nil _ _, .inl rfl, Nat.zero_le _⟩, ⟨rfl, fun c hc => ?_, (fun c hc => by cases hc), (fun i c hi => by simp at hi)⟩, Wf.nil, .inl rfl, ⟨fun c hc => ?_, List.Pairwise.nil, (fun c hc => by cases hc), (fun c hc => by cases hc), ?_⟩, ?_, ⟨hB, lt_some h⟩, (fun g e => by cases e), (fun g e => by cases e), (fun b e => e.2)⟩⟩
  · unfold ktl at hc
    split at hc <;> simp at hc
  · unfold ktl at hc
    split at hc <;> simp at hc
  · unfold filQ lvQ
    simp [qbd]
    omega
  · unfold lvQ
    simp [qbd]
end Go.Proofs.YtbefpojdopfeeaaGreatDoor
