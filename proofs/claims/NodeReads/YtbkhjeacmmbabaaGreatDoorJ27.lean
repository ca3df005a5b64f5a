import Derived.Test.YtbkhjeacmmbabaaGreatDoorJ26
namespace Go.Proofs.YtbkhjeacmmbabaaGreatDoor
set_option maxRecDepth 100000
open Go.RowKit
def Nw (B : Nat) (ao : Option Addr) (n : Nat) : Prop := n = 0 ∨ ∀ p, ao = some p → B ≤ p.block
theorem Nw.low {B C : Nat} {ao : Option Addr} {n : Nat} (h : Nw C ao n) (hB : B ≤ C) : Nw B ao n := h.imp id fun h p e => zN hB (h p e)
theorem Nw.less {B : Nat} {ao : Option Addr} {n m : Nat} (h : Nw B ao n) (hm : m ≤ n) : Nw B ao m := by
 rcases h with h | h
 ·exact .inl zq
 ·exact .inr h
theorem OwnB.nw {w : World} {B : Nat} {ao : Option Addr} {n cp : Nat} {l : List Int} (h : OwnB w B (.slice ao n cp) l) : Nw B ao n := by
 rcases h.2 with ⟨e, _⟩ | ⟨g, cap, cur, e, hg, _⟩
 ·injection e with _ e
  exact .inl e
 ·injection e with e
  right
  intro p hp
  rw [e] at hp
  injection hp with hp
  rw [← hp]
  exact hg
def ShTo (P : List Int) (w : World) (e : Ending) (w' : World) : Prop := ∃ po pn pc, e = .returned (.slice po pn pc) ∧ Hid (Sl w' po pn pc P) ∧ Hid (Below w.heap.size w w') ∧ Hid (Nw w.heap.size po pn)
theorem SlE.item {w : World} {G : Nat} {ao : Option Addr} {n cap : Nat} {cs : List Cl} (h : SlE w G ao n cap cs) (i : Nat) (hi : i < n) : ∃ b off c, ao = some ⟨b, off, none⟩ ∧ b < w.heap.size ∧ cs[i]? = some c ∧ EAt w G b (off + i * 6) c := by
 have hl := h.hlen
 rcases h.hat with h0 | ⟨b, off, e, hb, hc⟩
 ·omega
 ·obtain ⟨c, A⟩ : ∃ c, cs[i]? = some c := ⟨_, zI zq⟩
  exact ⟨b, off, c, e, hb, A, hc i c A⟩
theorem SlE.piece {w : World} {G b off n cap : Nat} {cs : List Cl} (h : SlE w G (some ⟨b, off, none⟩) n cap cs) (i k c : Nat) (hk : i + k ≤ n) (hc : k ≤ c) : SlE w G (some ⟨b, off + i * 6, none⟩) k c ((cs.drop i).take k) := by
 have hl := h.hlen
 refine ⟨by rw [zJ, zK]; omega, hc, by have := h.hroom; omega, (by intro h; cases h), ?_⟩
 rcases h.hat with h0 | ⟨b', off', e, hb, A⟩
 ·exact .inl zq
 ·injection e with e
  injection e with e1 e2
  subst e1 e2
  refine .inr ⟨b, off + i * 6, rfl, hb, fun j c hj => ?_⟩
  have B := (zH.1 hj).1
  rw [zJ, zK] at B
  rw [List.getElem?_take_of_lt zq, List.getElem?_drop] at hj
  have := A (i + j) c hj
  rwa [show off + (i + j) * 6 = off + i * 6 + j * 6 by omega] at this
theorem Sl.uniq {w : World} {ao : Option Addr} {n cap : Nat} {l l' : List Int} (h : Sl w ao n cap l) (g : Sl w ao n cap l') : l = l' := by
 have h1 := h.hlen
 have h2 := g.hlen
 refine List.ext_getElem zq fun i hi hi' => ?_
 rcases h.hat with h0 | ⟨b, off, e, _, hc⟩
 ·omega
 ·rcases g.hat with g0 | ⟨b', off', e', _, gc⟩
  ·omega
  ·rw [e] at e'
   injection e' with e'
   injection e' with e1 e2
   subst e1 e2
   have k1 := hc i zq
   have k2 := gc i zq
   rw [k1] at k2
   injection k2 with k2
   injection k2 with _ k2
   simpa [List.getD, hi, hi'] using k2
theorem EAt.key {w : World} {G b off : Nat} {c : Cl} (h : EAt w G b off c) (hf : c.key.length ≤ 140737488355328) : ∃ ho hn hc ko kn kc vo vn vc, w.cell? ⟨b, off, none⟩ = some (.slice ho hn hc) ∧ w.cell? ⟨b, off + 1, none⟩ = some (.slice ko kn kc) ∧ w.cell? ⟨b, off + 2, none⟩ = some (.int .i64 c.kd) ∧ w.cell? ⟨b, off + 3, none⟩ = some (.slice vo vn vc) ∧ w.cell? ⟨b, off + 4, none⟩ = some (.int .i64 c.pg) ∧ w.cell? ⟨b, off + 5, none⟩ = some (.int .i64 c.ct) ∧
  (∃ h key, Sl w ho hn hc h ∧ Sl w ko kn kc key ∧ h ++ key = c.key) ∧ ∀ u, Below w.heap.size w u → Calls Tryz.prog 130 #[.agg #[.slice ho hn hc, .slice ko kn kc, .int .i64 c.kd, .slice vo vn vc, .int .i64 c.pg, .int .i64 c.ct]] u fun e w' => ∃ a cp, e = .returned (.slice a c.key.length cp) ∧ Hid (Sl w' a c.key.length cp c.key ∧ Nw u.heap.size a c.key.length) ∧ Hid (Below u.heap.size u w') := by
 obtain ⟨ho, hn, hc, ko, kn, kc, vo, vn, vc, h', key, h0, h1, h2, h3, h4, h5, s1, s2, s3, e, _⟩ := h
 refine ⟨ho, hn, hc, ko, kn, kc, vo, vn, vc, h0, h1, h2, h3, h4, h5, ⟨h', key, s1, s2, e⟩, fun u hu => ?_⟩
 have A : hn + kn = c.key.length := by rw [← e, zG, s1.hlen, s2.hlen]
 refine (keyq_any ho hn hc ko kn kc c.kd vo vn vc c.pg c.ct h' key u (s1.on Lr hu) (s2.on Lr hu) zq).mono ?_
 rintro x w' ⟨v', rfl, HO, HB⟩
 have ho' := HO.out
 rw [e] at ho'
 obtain ⟨a, cp, hv, hs, _⟩ := ho'.sl (by rw [← e]; exact s1.wf.append s2.wf) hf
 exact ⟨a, cp, by rw [hv], zaa ⟨hs, by rw [hv] at ho'; exact ho'.nw⟩, HB⟩
set_option maxHeartbeats 4000000 in
theorem shared_any (k : Int) (G : Nat) (ao : Option Addr) (n cap : Nat) (cs : List Cl) (w : World) (hs : SlE w G ao n cap cs) (hr : Rs cs) (hf : ∀ c ∈ cs, c.fit) :
  Calls Tryz.prog 125 #[.int .i64 k, .slice ao n cap] w fun e w' => ShTo (shP k cs) w e w' := by
 have hn := hs.hroom
 have D9 := hs.hcap
 have B7 := hs.hlen
 by_cases h0 : n = 0
 ·subst h0
  obtain rfl : cs = [] := List.eq_nil_of_length_eq_zero B7
  have hz : shP k [] = [] := by unfold shP ktl; split <;> rfl
  rw [hz]
  clear hs
  go_enter Tryz.func125, Tryz.ntmps125
  go_wp2
  go_ret
  exact ⟨none, 0, 0, rfl, zaa (Sl.nil_any _ _ _ (fun _ => rfl)), zaa Br, zaa (.inl rfl)⟩
 ·have C4 : 0 < n := zq
  have E3 : 0 < (n : Int) := zq
  have d0 : ((n : Int) == 0) = false := by simp; omega
  obtain ⟨b, off, rfl⟩ : ∃ b off, ao = some ⟨b, off, none⟩ := by
   rcases hs.hat with h | ⟨b, off, e, _⟩
   ·exact absurd h h0
   ·exact ⟨b, off, e⟩
  by_cases hk : k = 3
  ·have hd : decide (k = 3 ∧ (0 : Int) = 0) = true := by simp [hk]
   have A1 : Hid (∀ u, Calls Tryz.prog 82 #[.int .i64 k, .int .i64 0] u fun e w' => e = .returned (.bool true) ∧ w' = u) := zaa (fun u => by have := zda k 0 u; rwa [hd] at this)
   clear hd
   have A2 : ktl k cs = cs.drop 1 := by unfold ktl; rw [if_pos hk, List.drop_one]
   clear hk
   unfold shP
   rw [A2]
   by_cases h1 : n = 1
   ·subst h1
    have hz : shr (cs.drop 1) = [] := by rw [List.drop_eq_nil_of_le zq]; rfl
    rw [hz]
    have I : (1 : Int) ≤ (cap : Int) := zq
    clear hs
    by_cases C6 : cap = 1
    ·subst C6
     go_enter Tryz.func125, Tryz.ntmps125
     go_wp2_with (go_at_call 82; refine zad (A1.out _) ?_)
     go_ret
     exact ⟨none, 0, 0, rfl, zaa (Sl.nil_any _ _ _ (fun _ => rfl)), zaa Br, zaa (.inl rfl)⟩
    ·have E0 : 1 < cap := zq
     have C0 : cap - 1 ≠ 0 := zq
     go_enter Tryz.func125, Tryz.ntmps125
     go_wp2_with (go_at_call 82; refine zad (A1.out _) ?_)
     go_ret
     exact ⟨none, 0, 0, rfl, zaa (Sl.nil_any _ _ _ (fun _ => rfl)), zaa Br, zaa (.inl rfl)⟩
   ·have h2 := hs.piece 1 (n - 1) (cap - 1) zq zq
    have e2 : (cs.drop 1).take (n - 1) = cs.drop 1 := List.take_of_length_le (by rw [zK]; omega)
    rw [e2, Nat.one_mul] at h2
    have C : Rs (cs.drop 1) := List.Pairwise.drop hr
    have R : ∀ c ∈ cs.drop 1, c.fit := fun c hc => hf c (List.mem_of_mem_drop hc)
    generalize cs.drop 1 = ds at *
    have I : (1 : Int) ≤ (cap : Int) := zq
    have C0 : cap - 1 ≠ 0 := zq
    have E1 : 1 < cap := zq
    have E4 : (1 : Int) ≤ (n : Int) := zq
    have E5 : 1 ≤ n := zq
    obtain ⟨n', hn'⟩ : ∃ n', n - 1 = n' := ⟨_, rfl⟩
    obtain ⟨cap', B8⟩ : ∃ c', cap - 1 = c' := ⟨_, rfl⟩
    obtain ⟨off', B9⟩ : ∃ o', off + 6 = o' := ⟨_, rfl⟩
    rw [hn', B8, B9] at h2
    have E7 : (n : Int) - 1 = (n' : Int) := zq
    have C1 : 0 < n' := zq
    have E2 : 0 < (n' : Int) := zq
    have d0' : ((n' : Int) == 0) = false := by simp; omega
    clear hs B7 A2 e2 hr hf
    have C7 := zaa h2
    obtain ⟨b1, off1, c, D, A, H, T⟩ := h2.item 0 C1
    injection D with D
    injection D with U V
    subst U V
    simp only [Nat.zero_mul, Nat.add_zero] at T
    obtain ⟨M, hM⟩ : ∃ M, n' - 1 = M := ⟨_, rfl⟩
    obtain ⟨b1, off1, z, D, _, B, A3⟩ := h2.item M zq
    injection D with D
    injection D with U V
    subst U V
    have C8 : IntKind.i64.wrap ((n' : Int) - 1) = (M : Int) := by rw [IntKind.wrap_i64]; omega
    have C2 : (n' : Int) - 1 = (M : Int) := zq
    have C3 : IntKind.i64.wrap (M : Int) = (M : Int) := by rw [IntKind.wrap_i64]; omega
    have C9 : M < n' := zq
    have D0 : (M : Int) < (n' : Int) := zq
    have J := h2.hlen
    have D3 := (R c (List.mem_of_getElem? H)).key
    have D4 := (R z (List.mem_of_getElem? B)).key
    have A7 : Hid (shr ds = c.key.take (lcp c.key z.key)) := zaa (by
     match ds, H, B, J, C with
     | x :: r, H, B, J, C =>
      simp at H
      subst H
      unfold shr
      cases r with
      | nil =>
       have : M = 0 := by simp at J; omega
       subst this
       simp at B
       subst B
       rw [lcp_self]
       rfl
      | cons y r' =>
       unfold Rs at C
       rw [List.pairwise_cons] at C
       have A8 : (y :: r').getLast? = some z := by
        have A9 : M = (y :: r').length := by simp at J ⊢; omega
        rw [A9] at B
        simp only [List.length_cons, List.getElem?_cons_succ] at B
        rw [List.getLast?_eq_getElem?]
        simpa using B
       show List.take (shn x.key (y :: r')) x.key = _
       rw [shn_last x.key (y :: r') z A8 C.1 C.2])
    obtain ⟨ho, L, I, ko, kn, kc, vo, vn, vc, c0, c1, c2, c3, c4, c5, Y, P⟩ := T.key zq
    obtain ⟨zo, zn, zc, yo, yn, yc, xo, xn, xc, z0, z1, z2, z3, z4, z5, A0, Q⟩ := A3.key zq
    have B0 : Hid (∀ u, Below w.heap.size w u → u.cell? ⟨b, off', none⟩ = some (.slice ho L I) ∧ u.cell? ⟨b, off' + 1, none⟩ = some (.slice ko kn kc) ∧ u.cell? ⟨b, off' + 2, none⟩ = some (.int .i64 c.kd) ∧ u.cell? ⟨b, off' + 3, none⟩ = some (.slice vo vn vc) ∧ u.cell? ⟨b, off' + 4, none⟩ = some (.int .i64 c.pg) ∧ u.cell? ⟨b, off' + 5, none⟩ = some (.int .i64 c.ct) ∧ u.cell? ⟨b, off' + M * 6, none⟩ = some (.slice zo zn zc) ∧ u.cell? ⟨b, off' + M * 6 + 1, none⟩ = some (.slice yo yn yc) ∧ u.cell? ⟨b, off' + M * 6 + 2, none⟩ = some (.int .i64 z.kd) ∧ u.cell? ⟨b, off' + M * 6 + 3, none⟩ = some (.slice xo xn xc) ∧ u.cell? ⟨b, off' + M * 6 + 4, none⟩ = some (.int .i64 z.pg) ∧ u.cell? ⟨b, off' + M * 6 + 5, none⟩ = some (.int .i64 z.ct)) := zaa fun u hu =>
     ⟨(hu.cell (p := ⟨b, off', none⟩) A).trans c0, (hu.cell (p := ⟨b, off' + 1, none⟩) A).trans c1, (hu.cell (p := ⟨b, off' + 2, none⟩) A).trans c2, (hu.cell (p := ⟨b, off' + 3, none⟩) A).trans c3, (hu.cell (p := ⟨b, off' + 4, none⟩) A).trans c4, (hu.cell (p := ⟨b, off' + 5, none⟩) A).trans c5, (hu.cell (p := ⟨b, off' + M * 6, none⟩) A).trans z0, (hu.cell (p := ⟨b, off' + M * 6 + 1, none⟩) A).trans z1, (hu.cell (p := ⟨b, off' + M * 6 + 2, none⟩) A).trans z2, (hu.cell (p := ⟨b, off' + M * 6 + 3, none⟩) A).trans z3, (hu.cell (p := ⟨b, off' + M * 6 + 4, none⟩) A).trans z4, (hu.cell (p := ⟨b, off' + M * 6 + 5, none⟩) A).trans z5⟩
    have HK : Hid (∀ (E : Array Value) u, (E = #[.slice ho L I, .slice ko kn kc, .int .i64 c.kd, .slice vo vn vc, .int .i64 c.pg, .int .i64 c.ct] ∨ E = #[.slice zo zn zc, .slice yo yn yc, .int .i64 z.kd, .slice xo xn xc, .int .i64 z.pg, .int .i64 z.ct]) → Below w.heap.size w u → Calls Tryz.prog 130 #[.agg E] u fun e w' => ∃ a m cp t, e = .returned (.slice a m cp) ∧ Hid ((Sl w' a m cp t ∧ Nw w.heap.size a m) ∧ (t = c.key ∨ t = z.key) ∧ (E = #[.slice ho L I, .slice ko kn kc, .int .i64 c.kd, .slice vo vn vc, .int .i64 c.pg, .int .i64 c.ct] → t = c.key) ∧ (E = #[.slice zo zn zc, .slice yo yn yc, .int .i64 z.kd, .slice xo xn xc, .int .i64 z.pg, .int .i64 z.ct] → t = z.key)) ∧ Hid (Below u.heap.size u w')) := zaa (by
     have A4 : #[Value.slice ho L I, Value.slice ko kn kc, Value.int .i64 c.kd, Value.slice vo vn vc, Value.int .i64 c.pg, Value.int .i64 c.ct] = #[Value.slice zo zn zc, Value.slice yo yn yc, Value.int .i64 z.kd, Value.slice xo xn xc, Value.int .i64 z.pg, Value.int .i64 z.ct] → c.key = z.key := by
      intro hE
      obtain ⟨l1, l2, s1, s2, e1⟩ := Y
      obtain ⟨l3, l4, s3, s4, e2⟩ := A0
      simp only [Array.mk.injEq, List.cons.injEq, Value.slice.injEq] at hE
      obtain ⟨⟨rfl, rfl, rfl⟩, ⟨rfl, rfl, rfl⟩, _⟩ := hE
      rw [← e1, ← e2, s1.uniq s3, s2.uniq s4]
     intro E u hE hu
     rcases hE with rfl | rfl
     ·refine (P u hu).mono ?_
      rintro e w' ⟨a', cp, rfl, HS', HB'⟩
      exact ⟨a', _, cp, c.key, rfl, zaa ⟨⟨HS'.out.1, HS'.out.2.low hu.size⟩, .inl rfl, fun _ => rfl, A4⟩, HB'⟩
     ·refine (Q u hu).mono ?_
      rintro e w' ⟨a', cp, rfl, HS', HB'⟩
      exact ⟨a', _, cp, z.key, rfl, zaa ⟨⟨HS'.out.1, HS'.out.2.low hu.size⟩, .inr rfl, fun h => (A4 h.symm).symm, fun _ => rfl⟩, HB'⟩)
    have B1 := zaa (lcp_le c.key z.key)
    rw [A7.out]
    obtain ⟨K, hK⟩ : ∃ K, c.key.length = K := ⟨_, rfl⟩
    obtain ⟨Z, hZ⟩ : ∃ Z, z.key.length = Z := ⟨_, rfl⟩
    clear h2 C R H B T A3 P Q Y A0 J hM
    go_enter Tryz.func125, Tryz.ntmps125
    go_wp2_with (go_at_call 82; refine zad (A1.out _) ?_)
    go_region_with (first | (go_at_call 130; refine (HK.out _ _ (by first | exact .inl rfl | exact .inr rfl) (by first | exact Br | exact Br.drew | exact zac Br _ | exact F.out | exact F.out.drew | exact zac F.out _ | exact (zac F.out _).drew)).mono ?_; first | (have _hh := F; rintro e w2 ⟨a2, m2, p2, t2, rfl, W, A5⟩) | (rintro e w1 ⟨a1, m1', p1, t1, rfl, N, B2⟩; have F : Hid (Below w.heap.size w w1) := zaa (zae zW1 Lr B2.out); obtain ⟨m0, m1, m2, m3, m4, m5, m6, m7, m8, m9, mA, mB⟩ := B0.out _ F.out)))
    all_goals
     have e1 : t1 = c.key := N.out.2.2.1 (by first | trivial | rfl)
     have e2 : t2 = z.key := W.out.2.2.2 (by first | trivial | rfl)
     have O : Hid (Sl w2 a1 m1' p1 c.key) := zaa (by rw [← e1]; exact N.out.1.1.on Lr A5.out)
     have A6 : Hid (Sl w2 a2 m2 p2 z.key) := zaa (by rw [← e2]; exact W.out.1.1)
     have X : Hid (Below w.heap.size w w2) := zaa (zae F.out Lr A5.out)
     have D5 := O.out.hlen
     have D7 := O.out.hcap
     obtain ⟨q, hq⟩ : ∃ q, lcp c.key z.key = q := ⟨_, rfl⟩
     have B3 := B1.out.1
     rw [hq] at B3
     have D8 : (q : Int) ≤ (p1 : Int) := zq
     have B4 : Hid (∀ u, Below w2.heap.size w2 u → Sl u a1 q p1 (c.key.take (lcp c.key z.key))) := zaa (by
      intro u hu
      rw [hq]
      exact (O.out.on Lr hu).take q zq)
     have B5 : Hid (∀ u g, Below w2.heap.size w2 u → u.heap[g]? = some (.cells #[.slice a1 m1' p1, .slice a2 m2 p2] 22 (0, 0)) → Calls Tryz.prog 123 #[.slice (some ⟨g, 0, none⟩) 2 2] u fun e w' => e = .returned (.int .i64 (q : Int)) ∧ ∃ q, w' = u.drewN q) := zaa (by
      intro u g hu hg
      have := common_any (some ⟨g, 0, none⟩) 2 2 c.key [z.key] u (sls_two hg (O.out.on Lr hu) (A6.out.on Lr hu))
      rwa [cmN_two, hq] at this)
     have B6 : Hid (Nw w.heap.size a1 q) := zaa (N.out.1.2.less zq)
     clear e1 e2 N W A6 hq
     go_wp2_with (go_at_call 123; refine (B5.out _ _ (by first | exact zab Br Lr _ | exact zab (Br.drew) Lr _ | exact zab (zac Br _) Lr _) (by exact heap_alloc_last _ _)).mono ?_; rintro e w4 ⟨rfl, q4, rfl⟩)
     go_ret
     exact ⟨a1, q, p1, rfl, zaa (B4.out _ (by first | exact zac (zab Br Lr _) _ | exact zac (zab (Br.drew) Lr _) _ | exact zac (zab (zac Br _) Lr _) _)), zaa (by first | exact zac (zab X.out Lr _) _ | exact zac (zab X.out.drew Lr _) _ | exact zac (zab (zac X.out _) Lr _) _), B6⟩
  ·have hd : decide (k = 3 ∧ (0 : Int) = 0) = false := by simp [hk]
   have A1 : Hid (∀ u, Calls Tryz.prog 82 #[.int .i64 k, .int .i64 0] u fun e w' => e = .returned (.bool false) ∧ w' = u) := zaa (fun u => by have := zda k 0 u; rwa [hd] at this)
   clear hd
   have A2 : ktl k cs = cs := by unfold ktl; rw [if_neg hk]
   clear hk
   unfold shP
   rw [A2]
   have h2 := hs
   have C := hr
   have R := hf
   clear A2 hs hr hf
   have C7 := zaa h2
   obtain ⟨b1, off1, c, D, A, H, T⟩ := h2.item 0 C4
   injection D with D
   injection D with U V
   subst U V
   simp only [Nat.zero_mul, Nat.add_zero] at T
   obtain ⟨M, hM⟩ : ∃ M, n - 1 = M := ⟨_, rfl⟩
   obtain ⟨b1, off1, z, D, _, B, A3⟩ := h2.item M zq
   injection D with D
   injection D with U V
   subst U V
   have C8 : IntKind.i64.wrap ((n : Int) - 1) = (M : Int) := by rw [IntKind.wrap_i64]; omega
   have C2 : (n : Int) - 1 = (M : Int) := zq
   have C3 : IntKind.i64.wrap (M : Int) = (M : Int) := by rw [IntKind.wrap_i64]; omega
   have C9 : M < n := zq
   have D0 : (M : Int) < (n : Int) := zq
   have J := h2.hlen
   have D3 := (R c (List.mem_of_getElem? H)).key
   have D4 := (R z (List.mem_of_getElem? B)).key
   have A7 : Hid (shr cs = c.key.take (lcp c.key z.key)) := zaa (by
    match cs, H, B, J, C with
    | x :: r, H, B, J, C =>
     simp at H
     subst H
     unfold shr
     cases r with
     | nil =>
      have : M = 0 := by simp at J; omega
      subst this
      simp at B
      subst B
      rw [lcp_self]
      rfl
     | cons y r' =>
      unfold Rs at C
      rw [List.pairwise_cons] at C
      have A8 : (y :: r').getLast? = some z := by
       have A9 : M = (y :: r').length := by simp at J ⊢; omega
       rw [A9] at B
       simp only [List.length_cons, List.getElem?_cons_succ] at B
       rw [List.getLast?_eq_getElem?]
       simpa using B
      show List.take (shn x.key (y :: r')) x.key = _
      rw [shn_last x.key (y :: r') z A8 C.1 C.2])
   obtain ⟨ho, L, I, ko, kn, kc, vo, vn, vc, c0, c1, c2, c3, c4, c5, Y, P⟩ := T.key zq
   obtain ⟨zo, zn, zc, yo, yn, yc, xo, xn, xc, z0, z1, z2, z3, z4, z5, A0, Q⟩ := A3.key zq
   have B0 : Hid (∀ u, Below w.heap.size w u → u.cell? ⟨b, off, none⟩ = some (.slice ho L I) ∧ u.cell? ⟨b, off + 1, none⟩ = some (.slice ko kn kc) ∧ u.cell? ⟨b, off + 2, none⟩ = some (.int .i64 c.kd) ∧ u.cell? ⟨b, off + 3, none⟩ = some (.slice vo vn vc) ∧ u.cell? ⟨b, off + 4, none⟩ = some (.int .i64 c.pg) ∧ u.cell? ⟨b, off + 5, none⟩ = some (.int .i64 c.ct) ∧ u.cell? ⟨b, off + M * 6, none⟩ = some (.slice zo zn zc) ∧ u.cell? ⟨b, off + M * 6 + 1, none⟩ = some (.slice yo yn yc) ∧ u.cell? ⟨b, off + M * 6 + 2, none⟩ = some (.int .i64 z.kd) ∧ u.cell? ⟨b, off + M * 6 + 3, none⟩ = some (.slice xo xn xc) ∧ u.cell? ⟨b, off + M * 6 + 4, none⟩ = some (.int .i64 z.pg) ∧ u.cell? ⟨b, off + M * 6 + 5, none⟩ = some (.int .i64 z.ct)) := zaa fun u hu =>
    ⟨(hu.cell (p := ⟨b, off, none⟩) A).trans c0, (hu.cell (p := ⟨b, off + 1, none⟩) A).trans c1, (hu.cell (p := ⟨b, off + 2, none⟩) A).trans c2, (hu.cell (p := ⟨b, off + 3, none⟩) A).trans c3, (hu.cell (p := ⟨b, off + 4, none⟩) A).trans c4, (hu.cell (p := ⟨b, off + 5, none⟩) A).trans c5, (hu.cell (p := ⟨b, off + M * 6, none⟩) A).trans z0, (hu.cell (p := ⟨b, off + M * 6 + 1, none⟩) A).trans z1, (hu.cell (p := ⟨b, off + M * 6 + 2, none⟩) A).trans z2, (hu.cell (p := ⟨b, off + M * 6 + 3, none⟩) A).trans z3, (hu.cell (p := ⟨b, off + M * 6 + 4, none⟩) A).trans z4, (hu.cell (p := ⟨b, off + M * 6 + 5, none⟩) A).trans z5⟩
   have HK : Hid (∀ (E : Array Value) u, (E = #[.slice ho L I, .slice ko kn kc, .int .i64 c.kd, .slice vo vn vc, .int .i64 c.pg, .int .i64 c.ct] ∨ E = #[.slice zo zn zc, .slice yo yn yc, .int .i64 z.kd, .slice xo xn xc, .int .i64 z.pg, .int .i64 z.ct]) → Below w.heap.size w u → Calls Tryz.prog 130 #[.agg E] u fun e w' => ∃ a m cp t, e = .returned (.slice a m cp) ∧ Hid ((Sl w' a m cp t ∧ Nw w.heap.size a m) ∧ (t = c.key ∨ t = z.key) ∧ (E = #[.slice ho L I, .slice ko kn kc, .int .i64 c.kd, .slice vo vn vc, .int .i64 c.pg, .int .i64 c.ct] → t = c.key) ∧ (E = #[.slice zo zn zc, .slice yo yn yc, .int .i64 z.kd, .slice xo xn xc, .int .i64 z.pg, .int .i64 z.ct] → t = z.key)) ∧ Hid (Below u.heap.size u w')) := zaa (by
    have A4 : #[Value.slice ho L I, Value.slice ko kn kc, Value.int .i64 c.kd, Value.slice vo vn vc, Value.int .i64 c.pg, Value.int .i64 c.ct] = #[Value.slice zo zn zc, Value.slice yo yn yc, Value.int .i64 z.kd, Value.slice xo xn xc, Value.int .i64 z.pg, Value.int .i64 z.ct] → c.key = z.key := by
     intro hE
     obtain ⟨l1, l2, s1, s2, e1⟩ := Y
     obtain ⟨l3, l4, s3, s4, e2⟩ := A0
     simp only [Array.mk.injEq, List.cons.injEq, Value.slice.injEq] at hE
     obtain ⟨⟨rfl, rfl, rfl⟩, ⟨rfl, rfl, rfl⟩, _⟩ := hE
     rw [← e1, ← e2, s1.uniq s3, s2.uniq s4]
    intro E u hE hu
    rcases hE with rfl | rfl
    ·refine (P u hu).mono ?_
     rintro e w' ⟨a', cp, rfl, HS', HB'⟩
     exact ⟨a', _, cp, c.key, rfl, zaa ⟨⟨HS'.out.1, HS'.out.2.low hu.size⟩, .inl rfl, fun _ => rfl, A4⟩, HB'⟩
    ·refine (Q u hu).mono ?_
     rintro e w' ⟨a', cp, rfl, HS', HB'⟩
     exact ⟨a', _, cp, z.key, rfl, zaa ⟨⟨HS'.out.1, HS'.out.2.low hu.size⟩, .inr rfl, fun h => (A4 h.symm).symm, fun _ => rfl⟩, HB'⟩)
   have B1 := zaa (lcp_le c.key z.key)
   rw [A7.out]
   obtain ⟨K, hK⟩ : ∃ K, c.key.length = K := ⟨_, rfl⟩
   obtain ⟨Z, hZ⟩ : ∃ Z, z.key.length = Z := ⟨_, rfl⟩
   clear h2 C R H B T A3 P Q Y A0 J hM
   go_enter Tryz.func125, Tryz.ntmps125
   go_wp2_with (go_at_call 82; refine zad (A1.out _) ?_)
   go_region_with (first | (go_at_call 130; refine (HK.out _ _ (by first | exact .inl rfl | exact .inr rfl) (by first | exact Br | exact Br.drew | exact zac Br _ | exact F.out | exact F.out.drew | exact zac F.out _ | exact (zac F.out _).drew)).mono ?_; first | (have _hh := F; rintro e w2 ⟨a2, m2, p2, t2, rfl, W, A5⟩) | (rintro e w1 ⟨a1, m1', p1, t1, rfl, N, B2⟩; have F : Hid (Below w.heap.size w w1) := zaa (zae zW1 Lr B2.out); obtain ⟨m0, m1, m2, m3, m4, m5, m6, m7, m8, m9, mA, mB⟩ := B0.out _ F.out)))
   all_goals
    have e1 : t1 = c.key := N.out.2.2.1 (by first | trivial | rfl)
    have e2 : t2 = z.key := W.out.2.2.2 (by first | trivial | rfl)
    have O : Hid (Sl w2 a1 m1' p1 c.key) := zaa (by rw [← e1]; exact N.out.1.1.on Lr A5.out)
    have A6 : Hid (Sl w2 a2 m2 p2 z.key) := zaa (by rw [← e2]; exact W.out.1.1)
    have X : Hid (Below w.heap.size w w2) := zaa (zae F.out Lr A5.out)
    have D5 := O.out.hlen
    have D7 := O.out.hcap
    obtain ⟨q, hq⟩ : ∃ q, lcp c.key z.key = q := ⟨_, rfl⟩
    have B3 := B1.out.1
    rw [hq] at B3
    have D8 : (q : Int) ≤ (p1 : Int) := zq
    have B4 : Hid (∀ u, Below w2.heap.size w2 u → Sl u a1 q p1 (c.key.take (lcp c.key z.key))) := zaa (by
     intro u hu
     rw [hq]
     exact (O.out.on Lr hu).take q zq)
    have B5 : Hid (∀ u g, Below w2.heap.size w2 u → u.heap[g]? = some (.cells #[.slice a1 m1' p1, .slice a2 m2 p2] 22 (0, 0)) → Calls Tryz.prog 123 #[.slice (some ⟨g, 0, none⟩) 2 2] u fun e w' => e = .returned (.int .i64 (q : Int)) ∧ ∃ q, w' = u.drewN q) := zaa (by
     intro u g hu hg
     have := common_any (some ⟨g, 0, none⟩) 2 2 c.key [z.key] u (sls_two hg (O.out.on Lr hu) (A6.out.on Lr hu))
     rwa [cmN_two, hq] at this)
    have B6 : Hid (Nw w.heap.size a1 q) := zaa (N.out.1.2.less zq)
    clear e1 e2 N W A6 hq
    go_wp2_with (go_at_call 123; refine (B5.out _ _ (by first | exact zab Br Lr _ | exact zab (Br.drew) Lr _ | exact zab (zac Br _) Lr _) (by exact heap_alloc_last _ _)).mono ?_; rintro e w4 ⟨rfl, q4, rfl⟩)
    go_ret
    exact ⟨a1, q, p1, rfl, zaa (B4.out _ (by first | exact zac (zab Br Lr _) _ | exact zac (zab (Br.drew) Lr _) _ | exact zac (zab (zac Br _) Lr _) _)), zaa (by first | exact zac (zab X.out Lr _) _ | exact zac (zab X.out.drew Lr _) _ | exact zac (zab (zac X.out _) Lr _) _), B6⟩
def cutn (m : Nat) (f : Bool) (cs : List Cl) : Nat := if f = true ∧ cs = [] then 0 else m
theorem qbd_snoc (m : Nat) : ∀ (f : Bool) (cs : List Cl) (c : Cl), qbd m f (cs ++ [c]) = qbd m f cs ++ qB (cutn m f cs) c
 | f, [], c => by cases f <;> simp [qbd, cutn]
 | f, d :: r, c => by
  have ih := qbd_snoc m false r c
  simp only [List.cons_append, qbd, ih, zM]
  simp [cutn]
theorem qst_snoc (m : Nat) : ∀ (f : Bool) (b : Nat) (cs : List Cl) (c : Cl), qst m f b (cs ++ [c]) = qst m f b cs ++ [b + (qbd m f cs).length]
 | f, b, [], c => by simp [qst, qbd]
 | f, b, d :: r, c => by
  have ih := qst_snoc m false (b + (qB (if f then 0 else m) d).length) r c
  simp only [List.cons_append, qst, ih, qbd, zG]
  rw [Nat.add_assoc]
theorem qst_at (m : Nat) : ∀ (f : Bool) (b : Nat) (cs : List Cl) (i : Nat) (c : Cl), cs[i]? = some c → ∃ r p, (qst m f b cs).getD i 0 = b + p ∧ (qbd m f cs).drop p = qB (if f = true ∧ i = 0 then 0 else m) c ++ r
 | f, b, [], i, c, h => by simp at h
 | f, b, d :: r, 0, c, h => by
  simp at h
  subst h
  refine ⟨qbd m false r, 0, by simp [qst], ?_⟩
  simp [qbd]
 | f, b, d :: r, i + 1, c, h => by
  obtain ⟨t, p, h1, h2⟩ := qst_at m false (b + (qB (if f then 0 else m) d).length) r i c (by simpa using h)
  refine ⟨t, (qB (if f then 0 else m) d).length + p, ?_, ?_⟩
  ·simp only [qst, List.getD_cons_succ]
   rw [h1, Nat.add_assoc]
  ·simp only [qbd]
   rw [← List.drop_drop, List.drop_left, h2]
   simp
theorem qst_le (m : Nat) : ∀ (f : Bool) (b : Nat) (cs : List Cl) (s : Nat), s ∈ qst m f b cs → s ≤ b + (qbd m f cs).length
 | _, _, [], s, h => by simp [qst] at h
 | f, b, c :: r, s, h => by
  simp only [qst, List.mem_cons] at h
  simp only [qbd, zG]
  rcases h with rfl | h
  ·omega
  ·have := qst_le m false _ r s h
   omega
theorem layQ_of {k : Int} {P : List Int} {cs : List Cl} (hb : Beg k P cs) (hf : ∀ c ∈ cs, c.fit) : LayQ k P cs (qbd P.length (whl k) cs) (qst P.length (whl k) 0 cs) := by
 refine ⟨zbi _ _ _ _, hb, hf, fun i c hi => ?_⟩
 obtain ⟨r, p, h1, h2⟩ := qst_at P.length (whl k) 0 cs i c hi
 refine ⟨r, ?_⟩
 rw [h1, Nat.zero_add, h2]
 simp [whl]
theorem wrL_laid (k : Int) (n : Nat) (P : List Int) (cs : List Cl) : wrL k n P (qbd P.length (whl k) cs) (qst P.length (whl k) 0 cs) = pkL k n P cs := by
 unfold wrL pkL
 rw [zbi, ← qst_shift, Nat.add_zero, zbj]
theorem qbd_pre (m : Nat) : ∀ (f : Bool) (cs : List Cl) (j : Nat), (qbd m f (cs.take j)).length ≤ (qbd m f cs).length
 | _, [], _ => by simp
 | f, c :: r, 0 => by simp [qbd]
 | f, c :: r, j + 1 => by
  have := qbd_pre m false r j
  simp only [List.take_succ_cons, qbd, zG]
  omega
theorem cutn_at (k : Int) (m : Nat) (cs : List Cl) (j : Nat) (hj : j ≤ cs.length) : cutn m (whl k) (cs.take j) = if k = 3 ∧ j = 0 then 0 else m := by
 unfold cutn whl
 have : cs.take j = [] ↔ j = 0 := by
  rw [List.take_eq_nil_iff]
  constructor
  ·rintro (h | h)
   ·exact h
   ·subst h; simpa using hj
  ·exact .inl
 simp [this]
theorem Beg.cut_le {k : Int} {P : List Int} {cs : List Cl} (h : Beg k P cs) (j : Nat) (c : Cl) (hj : cs[j]? = some c) : (if k = 3 ∧ j = 0 then 0 else P.length) ≤ c.key.length := by
 split
 ·omega
 ·next hc => exact beg_len (h c (mem_ktl hj hc))
def QR (w : World) (a : Nat) (k n : Int) (vp vb vs : Value) (ws : Int) : Prop := w.heap[a]? = some (.cells #[.int .i64 k, .int .i64 n, vp, vb, vs, .int .i64 ws] 128 (0, 0))
theorem QR.cells {w : World} {a : Nat} {k n : Int} {vp vb vs : Value} {ws : Int} (h : QR w a k n vp vb vs ws) :
  w.cell? ⟨a, 0, none⟩ = some (.int .i64 k) ∧ w.cell? ⟨a, 1, none⟩ = some (.int .i64 n) ∧ w.cell? ⟨a, 2, none⟩ = some vp ∧ w.cell? ⟨a, 3, none⟩ = some vb ∧ w.cell? ⟨a, 4, none⟩ = some vs ∧ w.cell? ⟨a, 5, none⟩ = some (.int .i64 ws) := by
 unfold QR at h
 refine ⟨?_, ?_, ?_, ?_, ?_, ?_⟩
 ·rw [cell_of_row _ _ 0 _ _ _ h]; rfl
 ·rw [cell_of_row _ _ 1 _ _ _ h]; rfl
 ·rw [cell_of_row _ _ 2 _ _ _ h]; rfl
 ·rw [cell_of_row _ _ 3 _ _ _ h]; rfl
 ·rw [cell_of_row _ _ 4 _ _ _ h]; rfl
 ·rw [cell_of_row _ _ 5 _ _ _ h]; rfl
theorem QR.free {w : World} {a : Nat} {k n : Int} {vp vb vs : Value} {ws : Int} (h : QR w a k n vp vb vs ws) (i : Nat) : w.frozen? ⟨a, i, none⟩ = false := by
 unfold QR at h
 simp [World.frozen?, h]
theorem QR.set3 {w : World} {a : Nat} {k n : Int} {vp vb vs : Value} {ws : Int} (h : QR w a k n vp vb vs ws) (v : Value) : QR (w.setCell ⟨a, 3, none⟩ v) a k n vp v vs ws := by
 unfold QR at *
 simpa using zau (w := w) (a := a) (i := 3) (cs := [.int .i64 k, .int .i64 n, vp, vb, vs, .int .i64 ws]) (u := v) h
theorem QR.set4 {w : World} {a : Nat} {k n : Int} {vp vb vs : Value} {ws : Int} (h : QR w a k n vp vb vs ws) (v : Value) : QR (w.setCell ⟨a, 4, none⟩ v) a k n vp vb v ws := by
 unfold QR at *
 simpa using zau (w := w) (a := a) (i := 4) (cs := [.int .i64 k, .int .i64 n, vp, vb, vs, .int .i64 ws]) (u := v) h
theorem QR.cf {w w' : World} {a : Nat} {k n : Int} {vp vb vs : Value} {ws : Int} {F : Nat → Prop} (h : QR w a k n vp vb vs ws) (hc : Cf F w w') (hf : ¬ F a) : QR w' a k n vp vb vs ws := (hc.block a (zaf h) hf).trans h
theorem QR.gr {w w' : World} {a : Nat} {k n : Int} {vp vb vs : Value} {ws : Int} {v v' : Value} (h : QR w a k n vp vb vs ws) (hg : Gr w v w' v') (hf : v.ownBlock ≠ some a) : QR w' a k n vp vb vs ws := (hg.grow.block a (zaf h) (fun e => hf e.symm)).trans h
theorem OwnB.apart {w : World} {B : Nat} {v : Value} {l : List Int} (h : OwnB w B v l) {g : Nat} {xs : Array Value} {t : TypeId} {fr : Nat × Nat} (hg : w.heap[g]? = some (.cells xs t fr)) (ht : t ≠ 5) : v.ownBlock ≠ some g := by
 intro e
 unfold OwnB at h
 rcases h.2 with ⟨rfl, _⟩ | ⟨q, cap, cur, rfl, _, hh, _⟩
 ·cases e
 ·simp only [Value.ownBlock, Option.some.injEq] at e
  subst e
  rw [hg] at hh
  simp at hh
  exact ht hh.2.1
theorem OwnB.apartN {w : World} {B C : Nat} {v u : Value} {l : List Int} {m : List Nat} (h : OwnB w B v l) (g : OwnN w C u m) : v.ownBlock = none ∨ v.ownBlock ≠ u.ownBlock := by
 unfold OwnN at g
 rcases g.2 with ⟨rfl, _⟩ | ⟨q, cap, cur, rfl, _, hh, _⟩
 ·cases hv : v.ownBlock with
  | none => exact .inl rfl
  | some k => exact .inr zsv
 ·exact .inr (h.apart hh zd)
theorem OwnN.apartB {w : World} {B C : Nat} {v u : Value} {l : List Int} {m : List Nat} (g : OwnN w C u m) (h : OwnB w B v l) : u.ownBlock = none ∨ u.ownBlock ≠ v.ownBlock := by
 unfold OwnB at h
 rcases h.2 with ⟨rfl, _⟩ | ⟨q, cap, cur, rfl, _, hh, _⟩
 ·cases hv : u.ownBlock with
  | none => exact .inl rfl
  | some k => exact .inr zsv
 ·exact .inr (g.apart hh zd)
theorem OwnB.gr {w w' : World} {B : Nat} {v : Value} {l : List Int} {u u' : Value} (h : OwnB w B v l) (hg : Gr w u w' u') (A : v.ownBlock = none ∨ v.ownBlock ≠ u.ownBlock) : OwnB w' B v l := World.ownsRow.kept h hg.grow A
theorem OwnB.cf {w w' : World} {B : Nat} {v : Value} {l : List Int} {r : Nat} (h : OwnB w B v l) (hc : Cf (· = r) w w') (A : v.ownBlock ≠ some r) : OwnB w' B v l :=
 World.ownsRow.kept (row := some r) h ⟨hc.os, hc.tape, hc.output, hc.size, fun k hk C => hc.block k hk (fun e => C (by rw [e]))⟩ (.inr A)
theorem OwnB.grow_below {w w' : World} {B : Nat} {v v' : Value} {l : List Int} (h : OwnB w B v l) (hg : Gr w v w' v') (hB : B ≤ w.heap.size) : Below B w w' := hg.below h hB
theorem OwnN.grow_below {w w' : World} {B : Nat} {v v' : Value} {l : List Nat} (h : OwnN w B v l) (hg : Gr w v w' v') (hB : B ≤ w.heap.size) : Below B w w' := zcu h hB hg.grow
structure Lq (w u : World) (B a : Nat) (k n : Int) (vp vb vs : Value) (ws : Int) (body : List Int) (st : List Nat) : Prop where
 row : QR u a k n vp vb vs ws
 ob : OwnB u B vb body
 on : OwnN u B vs st
 be : Below B w u
 hB : B ≤ w.heap.size
 ha : B ≤ a
theorem Lq.go {w u v : World} {B a : Nat} {k n : Int} {vp vb vs : Value} {ws : Int} {body : List Int} {st : List Nat} (h : Lq w u B a k n vp vb vs ws body st) (hb : Below u.heap.size u v) : Lq w v B a k n vp vb vs ws body st :=
 ⟨zag h.row hb, h.ob.on Lr hb, h.on.below hb, zae h.be h.hB hb, h.hB, h.ha⟩
theorem Lq.apartB {w u : World} {B a : Nat} {k n : Int} {vp vb vs : Value} {ws : Int} {body : List Int} {st : List Nat} (h : Lq w u B a k n vp vb vs ws body st) : vb.ownBlock ≠ some a := by
 have := h.row
 unfold QR at this
 exact h.ob.apart this zd
theorem Lq.apartS {w u : World} {B a : Nat} {k n : Int} {vp vb vs : Value} {ws : Int} {body : List Int} {st : List Nat} (h : Lq w u B a k n vp vb vs ws body st) : vs.ownBlock ≠ some a := by
 have := h.row
 unfold QR at this
 exact h.on.apart this zd
theorem Lq.le {w u : World} {B a : Nat} {k n : Int} {vp vb vs : Value} {ws : Int} {body : List Int} {st : List Nat} (h : Lq w u B a k n vp vb vs ws body st) : B ≤ u.heap.size := zN h.hB h.be.size
theorem Lq.row_st {w u v : World} {B a : Nat} {k n : Int} {vp vb vs vs' : Value} {ws : Int} {body : List Int} {st : List Nat} (h : Lq w u B a k n vp vb vs ws body st) {x : World} (hx : Below u.heap.size u x) (hg : Gr x vs v vs') : QR v a k n vp vb vs ws := (h.go hx).row.gr hg (h.go hx).apartS
theorem Lq.put_st {w u v : World} {B a : Nat} {k n : Int} {vp vb vs vs' : Value} {ws : Int} {body : List Int} {st st' : List Nat} (h : Lq w u B a k n vp vb vs ws body st) {x : World} (hx : Below u.heap.size u x) (ho : OwnN v B vs' st') (hg : Gr x vs v vs') :
  Lq w (v.setCell ⟨a, 4, none⟩ vs') B a k n vp vb vs' ws body st' := by
 have h1 := h.go hx
 have hr := h.row_st hx hg
 have hb : OwnB v B vb body := h1.ob.gr hg (h1.ob.apartN h1.on)
 have hc := Cf.set v a 4 vs'
 have C : Below B w v := h1.be.trans (h1.on.grow_below hg h1.le)
 have A := hr
 unfold QR at A
 exact ⟨hr.set4 vs', hb.cf hc (hb.apart A zd), ho.cf hc (ho.apart A zd), C.trans (hc.below (zN h.hB C.size) (by intro i hi e; have := h.ha; omega)), h.hB, h.ha⟩
theorem Lq.row_bd {w u v : World} {B a : Nat} {k n : Int} {vp vb vs vb' : Value} {ws : Int} {body : List Int} {st : List Nat} (h : Lq w u B a k n vp vb vs ws body st) {x : World} (hx : Below u.heap.size u x) (hg : Gr x vb v vb') : QR v a k n vp vb vs ws := (h.go hx).row.gr hg (h.go hx).apartB
theorem Lq.put_bd {w u v : World} {B a : Nat} {k n : Int} {vp vb vs vb' : Value} {ws : Int} {body body' : List Int} {st : List Nat} (h : Lq w u B a k n vp vb vs ws body st) {x : World} (hx : Below u.heap.size u x) (ho : OwnB v B vb' body') (hg : Gr x vb v vb') :
  Lq w (v.setCell ⟨a, 3, none⟩ vb') B a k n vp vb' vs ws body' st := by
 have h1 := h.go hx
 have hr := h.row_bd hx hg
 have hb : OwnN v B vs st := h1.on.gr hg (h1.on.apartB h1.ob)
 have hc := Cf.set v a 3 vb'
 have C : Below B w v := h1.be.trans (h1.ob.grow_below hg h1.le)
 have A := hr
 unfold QR at A
 exact ⟨hr.set3 vb', ho.cf hc (ho.apart A zd), hb.cf hc (hb.apart A zd), C.trans (hc.below (zN h.hB C.size) (by intro i hi e; have := h.ha; omega)), h.hB, h.ha⟩
theorem Lq.pg {w u : World} {B a : Nat} {k : Int} {n : Nat} {po : Option Addr} {pn pc : Nat} {vb vs : Value} {ws : Int} {P body : List Int} {st : List Nat} (h : Lq w u B a k n (.slice po pn pc) vb vs ws body st) (hP : Sl u po pn pc P) (hw : Wf body) (hb : body.length ≤ 140737488355328) (hs : st.length ≤ 140737488355328) :
  ∃ bo bc so sc, vb = .slice bo body.length bc ∧ vs = .slice so st.length sc ∧ PgQ u a k n po pn pc bo body.length bc so st.length sc ws P body st := by
 obtain ⟨bo, bc, rfl, A, _⟩ := h.ob.sl hw hb
 obtain ⟨so, sc, rfl, C⟩ := h.on.sln hs
 exact ⟨bo, bc, so, sc, rfl, rfl, ⟨h.row, hP, A, C⟩⟩
end Go.Proofs.YtbkhjeacmmbabaaGreatDoor
