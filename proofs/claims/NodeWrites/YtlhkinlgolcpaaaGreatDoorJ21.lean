import Derived.Test.YtlhkinlgolcpaaaGreatDoorJ19
import Derived.Test.YtlhkinlgolcpaaaGreatDoorJ20
namespace Go.Proofs.YtlhkinlgolcpaaaGreatDoor
set_option maxRecDepth 100000
open Go.RowKit
def Nw (B : Nat) (ao : Option Addr) (n : Nat) : Prop := n = 0 ∨ ∀ p, ao = some p → B ≤ p.block
theorem Nw.low {B C : Nat} {ao : Option Addr} {n : Nat} (h : Nw C ao n) (hB : B ≤ C) : Nw B ao n := h.imp id fun h p e => Nat.le_trans hB (h p e)
theorem Nw.less {B : Nat} {ao : Option Addr} {n m : Nat} (h : Nw B ao n) (hm : m ≤ n) : Nw B ao m := by
 rcases h with h | h
 ·exact .inl (by omega)
 ·exact .inr h
theorem OwnB.nw {w : World} {B : Nat} {ao : Option Addr} {n cp : Nat} {l : List Int} (h : OwnB w B (.slice ao n cp) l) : Nw B ao n := by
 rcases h.2 with ⟨e, _⟩ | ⟨g, cap, cur, e, hg, _⟩
 ·injection e with _ e
  exact .inl e
 ·injection e with e
  right
  intro p hp
  rw [e] at hp
  injection hp with hp
  rw [← hp]
  exact hg
def ShTo (P : List Int) (w : World) (e : Ending) (w' : World) : Prop := ∃ po pn pc, e = .returned (.slice po pn pc) ∧ Hid (Sl w' po pn pc P) ∧ Hid (Below w.heap.size w w') ∧ Hid (Nw w.heap.size po pn)
theorem SlE.item {w : World} {G : Nat} {ao : Option Addr} {n cap : Nat} {cs : List Cl} (h : SlE w G ao n cap cs) (i : Nat) (hi : i < n) : ∃ b off c, ao = some ⟨b, off, none⟩ ∧ b < w.heap.size ∧ cs[i]? = some c ∧ EAt w G b (off + i * 6) c := by
 have hl := h.hlen
 rcases h.hat with h0 | ⟨b, off, e, hb, hc⟩
 ·omega
 ·obtain ⟨c, hci⟩ : ∃ c, cs[i]? = some c := ⟨_, List.getElem?_eq_getElem (by omega)⟩
  exact ⟨b, off, c, e, hb, hci, hc i c hci⟩
theorem SlE.piece {w : World} {G b off n cap : Nat} {cs : List Cl} (h : SlE w G (some ⟨b, off, none⟩) n cap cs) (i k c : Nat) (hk : i + k ≤ n) (hc : k ≤ c) : SlE w G (some ⟨b, off + i * 6, none⟩) k c ((cs.drop i).take k) := by
 have hl := h.hlen
 refine ⟨by rw [List.length_take, List.length_drop]; omega, hc, by have := h.hroom; omega, (by intro h; cases h), ?_⟩
 rcases h.hat with h0 | ⟨b', off', e, hb, hcs⟩
 ·exact .inl (by omega)
 ·injection e with e
  injection e with e1 e2
  subst e1 e2
  refine .inr ⟨b, off + i * 6, rfl, hb, fun j c hj => ?_⟩
  have hjl := (List.getElem?_eq_some_iff.1 hj).1
  rw [List.length_take, List.length_drop] at hjl
  rw [List.getElem?_take_of_lt (by omega), List.getElem?_drop] at hj
  have := hcs (i + j) c hj
  rwa [show off + (i + j) * 6 = off + i * 6 + j * 6 by omega] at this
theorem Sl.uniq {w : World} {ao : Option Addr} {n cap : Nat} {l l' : List Int} (h : Sl w ao n cap l) (g : Sl w ao n cap l') : l = l' := by
 have h1 := h.hlen
 have h2 := g.hlen
 refine List.ext_getElem (by omega) fun i hi hi' => ?_
 rcases h.hat with h0 | ⟨b, off, e, _, hc⟩
 ·omega
 ·rcases g.hat with g0 | ⟨b', off', e', _, gc⟩
  ·omega
  ·rw [e] at e'
   injection e' with e'
   injection e' with e1 e2
   subst e1 e2
   have k1 := hc i (by omega)
   have k2 := gc i (by omega)
   rw [k1] at k2
   injection k2 with k2
   injection k2 with _ k2
   simpa [List.getD, hi, hi'] using k2
theorem EAt.key {w : World} {G b off : Nat} {c : Cl} (h : EAt w G b off c) (hf : c.key.length ≤ 140737488355328) : ∃ ho hn hc ko kn kc vo vn vc, w.cell? ⟨b, off, none⟩ = some (.slice ho hn hc) ∧ w.cell? ⟨b, off + 1, none⟩ = some (.slice ko kn kc) ∧ w.cell? ⟨b, off + 2, none⟩ = some (.int .i64 c.kd) ∧ w.cell? ⟨b, off + 3, none⟩ = some (.slice vo vn vc) ∧ w.cell? ⟨b, off + 4, none⟩ = some (.int .i64 c.pg) ∧ w.cell? ⟨b, off + 5, none⟩ = some (.int .i64 c.ct) ∧
  (∃ h key, Sl w ho hn hc h ∧ Sl w ko kn kc key ∧ h ++ key = c.key) ∧ ∀ u, Below w.heap.size w u → Calls Tryz.prog 132 #[.agg #[.slice ho hn hc, .slice ko kn kc, .int .i64 c.kd, .slice vo vn vc, .int .i64 c.pg, .int .i64 c.ct]] u fun e w' => ∃ a cp, e = .returned (.slice a c.key.length cp) ∧ Hid (Sl w' a c.key.length cp c.key ∧ Nw u.heap.size a c.key.length) ∧ Hid (Below u.heap.size u w') := by
 obtain ⟨ho, hn, hc, ko, kn, kc, vo, vn, vc, h', key, h0, h1, h2, h3, h4, h5, s1, s2, s3, e, _⟩ := h
 refine ⟨ho, hn, hc, ko, kn, kc, vo, vn, vc, h0, h1, h2, h3, h4, h5, ⟨h', key, s1, s2, e⟩, fun u hu => ?_⟩
 have hlen : hn + kn = c.key.length := by rw [← e, List.length_append, s1.hlen, s2.hlen]
 refine (keyq_any ho hn hc ko kn kc c.kd vo vn vc c.pg c.ct h' key u (s1.on (Nat.le_refl _) hu) (s2.on (Nat.le_refl _) hu) (by omega)).mono ?_
 rintro x w' ⟨v', rfl, HO, HB⟩
 have ho' := HO.out
 rw [e] at ho'
 obtain ⟨a, cp, hv, hs, _⟩ := ho'.sl (by rw [← e]; exact s1.wf.append s2.wf) hf
 exact ⟨a, cp, by rw [hv], hidden ⟨hs, by rw [hv] at ho'; exact ho'.nw⟩, HB⟩
set_option maxHeartbeats 4000000 in
theorem shared_any (k : Int) (G : Nat) (ao : Option Addr) (n cap : Nat) (cs : List Cl) (w : World) (hs : SlE w G ao n cap cs) (hr : Rs cs) (hf : ∀ c ∈ cs, c.fit) :
  Calls Tryz.prog 127 #[.int .i64 k, .slice ao n cap] w fun e w' => ShTo (shP k cs) w e w' := by
 have hn := hs.hroom
 have hcap := hs.hcap
 have hlen := hs.hlen
 by_cases h0 : n = 0
 ·subst h0
  obtain rfl : cs = [] := List.eq_nil_of_length_eq_zero hlen
  have hz : shP k [] = [] := by unfold shP ktl; split <;> rfl
  rw [hz]
  clear hs
  go_enter Tryz.func127, Tryz.ntmps127
  go_wp2
  go_ret
  exact ⟨none, 0, 0, rfl, hidden (Sl.nil_any _ _ _ (fun _ => rfl)), hidden (Below.refl _ _), hidden (.inl rfl)⟩
 ·have hn0 : 0 < n := by omega
  have hnI : 0 < (n : Int) := by omega
  have d0 : ((n : Int) == 0) = false := by simp; omega
  obtain ⟨b, off, rfl⟩ : ∃ b off, ao = some ⟨b, off, none⟩ := by
   rcases hs.hat with h | ⟨b, off, e, _⟩
   ·exact absurd h h0
   ·exact ⟨b, off, e⟩
  by_cases hk : k = 3
  ·have hd : decide (k = 3 ∧ (0 : Int) = 0) = true := by simp [hk]
   have HSW : Hid (∀ u, Calls Tryz.prog 91 #[.int .i64 k, .int .i64 0] u fun e w' => e = .returned (.bool true) ∧ w' = u) := hidden (fun u => by have := standsWhole_any k 0 u; rwa [hd] at this)
   clear hd
   have hkt : ktl k cs = cs.drop 1 := by unfold ktl; rw [if_pos hk, List.drop_one]
   clear hk
   unfold shP
   rw [hkt]
   by_cases h1 : n = 1
   ·subst h1
    have hz : shr (cs.drop 1) = [] := by rw [List.drop_eq_nil_of_le (by omega)]; rfl
    rw [hz]
    have hc1 : (1 : Int) ≤ (cap : Int) := by omega
    clear hs
    by_cases hcc : cap = 1
    ·subst hcc
     go_enter Tryz.func127, Tryz.ntmps127
     go_wp2_with (first | (go_at_call 91; refine same_call (HSW.out _) ?_))
     go_ret
     exact ⟨none, 0, 0, rfl, hidden (Sl.nil_any _ _ _ (fun _ => rfl)), hidden (Below.refl _ _), hidden (.inl rfl)⟩
    ·have hcc2 : 1 < cap := by omega
     have hcc3 : cap - 1 ≠ 0 := by omega
     go_enter Tryz.func127, Tryz.ntmps127
     go_wp2_with (first | (go_at_call 91; refine same_call (HSW.out _) ?_))
     go_ret
     exact ⟨none, 0, 0, rfl, hidden (Sl.nil_any _ _ _ (fun _ => rfl)), hidden (Below.refl _ _), hidden (.inl rfl)⟩
   ·have h2 := hs.piece 1 (n - 1) (cap - 1) (by omega) (by omega)
    have e2 : (cs.drop 1).take (n - 1) = cs.drop 1 := List.take_of_length_le (by rw [List.length_drop]; omega)
    rw [e2, Nat.one_mul] at h2
    have hr2 : Rs (cs.drop 1) := List.Pairwise.drop hr
    have hf2 : ∀ c ∈ cs.drop 1, c.fit := fun c hc => hf c (List.mem_of_mem_drop hc)
    generalize cs.drop 1 = ds at *
    have hc1 : (1 : Int) ≤ (cap : Int) := by omega
    have hcc3 : cap - 1 ≠ 0 := by omega
    have hcc4 : 1 < cap := by omega
    have hn3 : (1 : Int) ≤ (n : Int) := by omega
    have hn4 : 1 ≤ n := by omega
    obtain ⟨n', hn'⟩ : ∃ n', n - 1 = n' := ⟨_, rfl⟩
    obtain ⟨cap', hcap'⟩ : ∃ c', cap - 1 = c' := ⟨_, rfl⟩
    obtain ⟨off', hoff'⟩ : ∃ o', off + 6 = o' := ⟨_, rfl⟩
    rw [hn', hcap', hoff'] at h2
    have hnn : (n : Int) - 1 = (n' : Int) := by omega
    have hn0' : 0 < n' := by omega
    have hnI' : 0 < (n' : Int) := by omega
    have d0' : ((n' : Int) == 0) = false := by simp; omega
    clear hs hlen hkt e2 hr hf
    have HSC := hidden h2
    obtain ⟨b1, off1, c, hbo, hbl, hci, he0⟩ := h2.item 0 hn0'
    injection hbo with hbo
    injection hbo with hb1 hb2
    subst hb1 hb2
    simp only [Nat.zero_mul, Nat.add_zero] at he0
    obtain ⟨M, hM⟩ : ∃ M, n' - 1 = M := ⟨_, rfl⟩
    obtain ⟨b1, off1, z, hbo, _, hzi, he1⟩ := h2.item M (by omega)
    injection hbo with hbo
    injection hbo with hb1 hb2
    subst hb1 hb2
    have hMw : IntKind.i64.wrap ((n' : Int) - 1) = (M : Int) := by rw [IntKind.wrap_i64]; omega
    have hMw2 : (n' : Int) - 1 = (M : Int) := by omega
    have hMw3 : IntKind.i64.wrap (M : Int) = (M : Int) := by rw [IntKind.wrap_i64]; omega
    have hMl : M < n' := by omega
    have hMI : (M : Int) < (n' : Int) := by omega
    have hll := h2.hlen
    have hcm := (hf2 c (List.mem_of_getElem? hci)).key
    have hzm := (hf2 z (List.mem_of_getElem? hzi)).key
    have HEQ : Hid (shr ds = c.key.take (lcp c.key z.key)) := hidden (by
     match ds, hci, hzi, hll, hr2 with
     | x :: r, hci, hzi, hll, hr2 =>
      simp at hci
      subst hci
      unfold shr
      cases r with
      | nil =>
       have : M = 0 := by simp at hll; omega
       subst this
       simp at hzi
       subst hzi
       rw [lcp_self]
       rfl
      | cons y r' =>
       unfold Rs at hr2
       rw [List.pairwise_cons] at hr2
       have hgl : (y :: r').getLast? = some z := by
        have hM1 : M = (y :: r').length := by simp at hll ⊢; omega
        rw [hM1] at hzi
        simp only [List.length_cons, List.getElem?_cons_succ] at hzi
        rw [List.getLast?_eq_getElem?]
        simpa using hzi
       show List.take (shn x.key (y :: r')) x.key = _
       rw [shn_last x.key (y :: r') z hgl hr2.1 hr2.2])
    obtain ⟨ho, hn1, hc1, ko, kn, kc, vo, vn, vc, c0, c1, c2, c3, c4, c5, hpc0, hkey0⟩ := he0.key (by omega)
    obtain ⟨zo, zn, zc, yo, yn, yc, xo, xn, xc, z0, z1, z2, z3, z4, z5, hpc1, hkey1⟩ := he1.key (by omega)
    have HCE : Hid (∀ u, Below w.heap.size w u → u.cell? ⟨b, off', none⟩ = some (.slice ho hn1 hc1) ∧ u.cell? ⟨b, off' + 1, none⟩ = some (.slice ko kn kc) ∧ u.cell? ⟨b, off' + 2, none⟩ = some (.int .i64 c.kd) ∧ u.cell? ⟨b, off' + 3, none⟩ = some (.slice vo vn vc) ∧ u.cell? ⟨b, off' + 4, none⟩ = some (.int .i64 c.pg) ∧ u.cell? ⟨b, off' + 5, none⟩ = some (.int .i64 c.ct) ∧ u.cell? ⟨b, off' + M * 6, none⟩ = some (.slice zo zn zc) ∧ u.cell? ⟨b, off' + M * 6 + 1, none⟩ = some (.slice yo yn yc) ∧ u.cell? ⟨b, off' + M * 6 + 2, none⟩ = some (.int .i64 z.kd) ∧ u.cell? ⟨b, off' + M * 6 + 3, none⟩ = some (.slice xo xn xc) ∧ u.cell? ⟨b, off' + M * 6 + 4, none⟩ = some (.int .i64 z.pg) ∧ u.cell? ⟨b, off' + M * 6 + 5, none⟩ = some (.int .i64 z.ct)) := hidden fun u hu =>
     ⟨(hu.cell (p := ⟨b, off', none⟩) hbl).trans c0, (hu.cell (p := ⟨b, off' + 1, none⟩) hbl).trans c1, (hu.cell (p := ⟨b, off' + 2, none⟩) hbl).trans c2, (hu.cell (p := ⟨b, off' + 3, none⟩) hbl).trans c3, (hu.cell (p := ⟨b, off' + 4, none⟩) hbl).trans c4, (hu.cell (p := ⟨b, off' + 5, none⟩) hbl).trans c5, (hu.cell (p := ⟨b, off' + M * 6, none⟩) hbl).trans z0, (hu.cell (p := ⟨b, off' + M * 6 + 1, none⟩) hbl).trans z1, (hu.cell (p := ⟨b, off' + M * 6 + 2, none⟩) hbl).trans z2, (hu.cell (p := ⟨b, off' + M * 6 + 3, none⟩) hbl).trans z3, (hu.cell (p := ⟨b, off' + M * 6 + 4, none⟩) hbl).trans z4, (hu.cell (p := ⟨b, off' + M * 6 + 5, none⟩) hbl).trans z5⟩
    have HK : Hid (∀ (E : Array Value) u, (E = #[.slice ho hn1 hc1, .slice ko kn kc, .int .i64 c.kd, .slice vo vn vc, .int .i64 c.pg, .int .i64 c.ct] ∨ E = #[.slice zo zn zc, .slice yo yn yc, .int .i64 z.kd, .slice xo xn xc, .int .i64 z.pg, .int .i64 z.ct]) → Below w.heap.size w u → Calls Tryz.prog 132 #[.agg E] u fun e w' => ∃ a m cp t, e = .returned (.slice a m cp) ∧ Hid ((Sl w' a m cp t ∧ Nw w.heap.size a m) ∧ (t = c.key ∨ t = z.key) ∧ (E = #[.slice ho hn1 hc1, .slice ko kn kc, .int .i64 c.kd, .slice vo vn vc, .int .i64 c.pg, .int .i64 c.ct] → t = c.key) ∧ (E = #[.slice zo zn zc, .slice yo yn yc, .int .i64 z.kd, .slice xo xn xc, .int .i64 z.pg, .int .i64 z.ct] → t = z.key)) ∧ Hid (Below u.heap.size u w')) := hidden (by
     have huq : #[Value.slice ho hn1 hc1, Value.slice ko kn kc, Value.int .i64 c.kd, Value.slice vo vn vc, Value.int .i64 c.pg, Value.int .i64 c.ct] = #[Value.slice zo zn zc, Value.slice yo yn yc, Value.int .i64 z.kd, Value.slice xo xn xc, Value.int .i64 z.pg, Value.int .i64 z.ct] → c.key = z.key := by
      intro hE
      obtain ⟨l1, l2, s1, s2, e1⟩ := hpc0
      obtain ⟨l3, l4, s3, s4, e2⟩ := hpc1
      simp only [Array.mk.injEq, List.cons.injEq, Value.slice.injEq] at hE
      obtain ⟨⟨rfl, rfl, rfl⟩, ⟨rfl, rfl, rfl⟩, _⟩ := hE
      rw [← e1, ← e2, s1.uniq s3, s2.uniq s4]
     intro E u hE hu
     rcases hE with rfl | rfl
     ·refine (hkey0 u hu).mono ?_
      rintro e w' ⟨a', cp, rfl, HS', HB'⟩
      exact ⟨a', _, cp, c.key, rfl, hidden ⟨⟨HS'.out.1, HS'.out.2.low hu.size⟩, .inl rfl, fun _ => rfl, huq⟩, HB'⟩
     ·refine (hkey1 u hu).mono ?_
      rintro e w' ⟨a', cp, rfl, HS', HB'⟩
      exact ⟨a', _, cp, z.key, rfl, hidden ⟨⟨HS'.out.1, HS'.out.2.low hu.size⟩, .inr rfl, fun h => (huq h.symm).symm, fun _ => rfl⟩, HB'⟩)
    have HLC := hidden (lcp_le c.key z.key)
    rw [HEQ.out]
    obtain ⟨K, hK⟩ : ∃ K, c.key.length = K := ⟨_, rfl⟩
    obtain ⟨Z, hZ⟩ : ∃ Z, z.key.length = Z := ⟨_, rfl⟩
    clear h2 hr2 hf2 hci hzi he0 he1 hkey0 hkey1 hpc0 hpc1 hll hM
    go_enter Tryz.func127, Tryz.ntmps127
    go_wp2_with (first | (go_at_call 91; refine same_call (HSW.out _) ?_))
    go_region_with (first | (go_at_call 132; refine (HK.out _ _ (by first | exact .inl rfl | exact .inr rfl) (by first | exact Below.refl _ _ | exact (Below.refl _ _).drew | exact bl_dr (Below.refl _ _) _ | exact HB1.out | exact HB1.out.drew | exact bl_dr HB1.out _ | exact (bl_dr HB1.out _).drew)).mono ?_; first | (have _hh := HB1; rintro e w2 ⟨a2, m2, p2, t2, rfl, HS2, HB2⟩) | (rintro e w1 ⟨a1, m1', p1, t1, rfl, HS1, HBx⟩; have HB1 : Hid (Below w.heap.size w w1) := hidden (bl_go (by first | exact Below.refl _ _ | exact (Below.refl _ _).drew | exact bl_dr (Below.refl _ _) _) (Nat.le_refl _) HBx.out); obtain ⟨m0, m1, m2, m3, m4, m5, m6, m7, m8, m9, mA, mB⟩ := HCE.out _ HB1.out)))
    all_goals
     have e1 : t1 = c.key := HS1.out.2.2.1 (by first | trivial | rfl)
     have e2 : t2 = z.key := HS2.out.2.2.2 (by first | trivial | rfl)
     have HSA : Hid (Sl w2 a1 m1' p1 c.key) := hidden (by rw [← e1]; exact HS1.out.1.1.on (Nat.le_refl _) HB2.out)
     have HSZ : Hid (Sl w2 a2 m2 p2 z.key) := hidden (by rw [← e2]; exact HS2.out.1.1)
     have HBW : Hid (Below w.heap.size w w2) := hidden (bl_go HB1.out (Nat.le_refl _) HB2.out)
     have hpl := HSA.out.hlen
     have hpc := HSA.out.hcap
     obtain ⟨q, hq⟩ : ∃ q, lcp c.key z.key = q := ⟨_, rfl⟩
     have hq1 := HLC.out.1
     rw [hq] at hq1
     have hqI : (q : Int) ≤ (p1 : Int) := by omega
     have HTK : Hid (∀ u, Below w2.heap.size w2 u → Sl u a1 q p1 (c.key.take (lcp c.key z.key))) := hidden (by
      intro u hu
      rw [hq]
      exact (HSA.out.on (Nat.le_refl _) hu).take q (by omega))
     have HCM : Hid (∀ u g, Below w2.heap.size w2 u → u.heap[g]? = some (.cells #[.slice a1 m1' p1, .slice a2 m2 p2] 25 (0, 0)) → Calls Tryz.prog 125 #[.slice (some ⟨g, 0, none⟩) 2 2] u fun e w' => e = .returned (.int .i64 (q : Int)) ∧ ∃ q, w' = u.drewN q) := hidden (by
      intro u g hu hg
      have := common_any (some ⟨g, 0, none⟩) 2 2 c.key [z.key] u (sls_two hg (HSA.out.on (Nat.le_refl _) hu) (HSZ.out.on (Nat.le_refl _) hu))
      rwa [cmN_two, hq] at this)
     have HNW : Hid (Nw w.heap.size a1 q) := hidden (HS1.out.1.2.less (by omega))
     clear e1 e2 HS1 HS2 HSZ hq
     go_wp2_with (first | (go_at_call 125; refine (HCM.out _ _ (by first | exact bl_al (Below.refl _ _) (Nat.le_refl _) _ | exact bl_al ((Below.refl _ _).drew) (Nat.le_refl _) _ | exact bl_al (bl_dr (Below.refl _ _) _) (Nat.le_refl _) _) (by exact heap_alloc_last _ _)).mono ?_; rintro e w4 ⟨rfl, q4, rfl⟩))
     go_ret
     exact ⟨a1, q, p1, rfl, hidden (HTK.out _ (by first | exact bl_dr (bl_al (Below.refl _ _) (Nat.le_refl _) _) _ | exact bl_dr (bl_al ((Below.refl _ _).drew) (Nat.le_refl _) _) _ | exact bl_dr (bl_al (bl_dr (Below.refl _ _) _) (Nat.le_refl _) _) _)), hidden (by first | exact bl_dr (bl_al HBW.out (Nat.le_refl _) _) _ | exact bl_dr (bl_al HBW.out.drew (Nat.le_refl _) _) _ | exact bl_dr (bl_al (bl_dr HBW.out _) (Nat.le_refl _) _) _), HNW⟩
  ·have hd : decide (k = 3 ∧ (0 : Int) = 0) = false := by simp [hk]
   have HSW : Hid (∀ u, Calls Tryz.prog 91 #[.int .i64 k, .int .i64 0] u fun e w' => e = .returned (.bool false) ∧ w' = u) := hidden (fun u => by have := standsWhole_any k 0 u; rwa [hd] at this)
   clear hd
   have hkt : ktl k cs = cs := by unfold ktl; rw [if_neg hk]
   clear hk
   unfold shP
   rw [hkt]
   have h2 := hs
   have hr2 := hr
   have hf2 := hf
   clear hkt hs hr hf
   have HSC := hidden h2
   obtain ⟨b1, off1, c, hbo, hbl, hci, he0⟩ := h2.item 0 hn0
   injection hbo with hbo
   injection hbo with hb1 hb2
   subst hb1 hb2
   simp only [Nat.zero_mul, Nat.add_zero] at he0
   obtain ⟨M, hM⟩ : ∃ M, n - 1 = M := ⟨_, rfl⟩
   obtain ⟨b1, off1, z, hbo, _, hzi, he1⟩ := h2.item M (by omega)
   injection hbo with hbo
   injection hbo with hb1 hb2
   subst hb1 hb2
   have hMw : IntKind.i64.wrap ((n : Int) - 1) = (M : Int) := by rw [IntKind.wrap_i64]; omega
   have hMw2 : (n : Int) - 1 = (M : Int) := by omega
   have hMw3 : IntKind.i64.wrap (M : Int) = (M : Int) := by rw [IntKind.wrap_i64]; omega
   have hMl : M < n := by omega
   have hMI : (M : Int) < (n : Int) := by omega
   have hll := h2.hlen
   have hcm := (hf2 c (List.mem_of_getElem? hci)).key
   have hzm := (hf2 z (List.mem_of_getElem? hzi)).key
   have HEQ : Hid (shr cs = c.key.take (lcp c.key z.key)) := hidden (by
    match cs, hci, hzi, hll, hr2 with
    | x :: r, hci, hzi, hll, hr2 =>
     simp at hci
     subst hci
     unfold shr
     cases r with
     | nil =>
      have : M = 0 := by simp at hll; omega
      subst this
      simp at hzi
      subst hzi
      rw [lcp_self]
      rfl
     | cons y r' =>
      unfold Rs at hr2
      rw [List.pairwise_cons] at hr2
      have hgl : (y :: r').getLast? = some z := by
       have hM1 : M = (y :: r').length := by simp at hll ⊢; omega
       rw [hM1] at hzi
       simp only [List.length_cons, List.getElem?_cons_succ] at hzi
       rw [List.getLast?_eq_getElem?]
       simpa using hzi
      show List.take (shn x.key (y :: r')) x.key = _
      rw [shn_last x.key (y :: r') z hgl hr2.1 hr2.2])
   obtain ⟨ho, hn1, hc1, ko, kn, kc, vo, vn, vc, c0, c1, c2, c3, c4, c5, hpc0, hkey0⟩ := he0.key (by omega)
   obtain ⟨zo, zn, zc, yo, yn, yc, xo, xn, xc, z0, z1, z2, z3, z4, z5, hpc1, hkey1⟩ := he1.key (by omega)
   have HCE : Hid (∀ u, Below w.heap.size w u → u.cell? ⟨b, off, none⟩ = some (.slice ho hn1 hc1) ∧ u.cell? ⟨b, off + 1, none⟩ = some (.slice ko kn kc) ∧ u.cell? ⟨b, off + 2, none⟩ = some (.int .i64 c.kd) ∧ u.cell? ⟨b, off + 3, none⟩ = some (.slice vo vn vc) ∧ u.cell? ⟨b, off + 4, none⟩ = some (.int .i64 c.pg) ∧ u.cell? ⟨b, off + 5, none⟩ = some (.int .i64 c.ct) ∧ u.cell? ⟨b, off + M * 6, none⟩ = some (.slice zo zn zc) ∧ u.cell? ⟨b, off + M * 6 + 1, none⟩ = some (.slice yo yn yc) ∧ u.cell? ⟨b, off + M * 6 + 2, none⟩ = some (.int .i64 z.kd) ∧ u.cell? ⟨b, off + M * 6 + 3, none⟩ = some (.slice xo xn xc) ∧ u.cell? ⟨b, off + M * 6 + 4, none⟩ = some (.int .i64 z.pg) ∧ u.cell? ⟨b, off + M * 6 + 5, none⟩ = some (.int .i64 z.ct)) := hidden fun u hu =>
    ⟨(hu.cell (p := ⟨b, off, none⟩) hbl).trans c0, (hu.cell (p := ⟨b, off + 1, none⟩) hbl).trans c1, (hu.cell (p := ⟨b, off + 2, none⟩) hbl).trans c2, (hu.cell (p := ⟨b, off + 3, none⟩) hbl).trans c3, (hu.cell (p := ⟨b, off + 4, none⟩) hbl).trans c4, (hu.cell (p := ⟨b, off + 5, none⟩) hbl).trans c5, (hu.cell (p := ⟨b, off + M * 6, none⟩) hbl).trans z0, (hu.cell (p := ⟨b, off + M * 6 + 1, none⟩) hbl).trans z1, (hu.cell (p := ⟨b, off + M * 6 + 2, none⟩) hbl).trans z2, (hu.cell (p := ⟨b, off + M * 6 + 3, none⟩) hbl).trans z3, (hu.cell (p := ⟨b, off + M * 6 + 4, none⟩) hbl).trans z4, (hu.cell (p := ⟨b, off + M * 6 + 5, none⟩) hbl).trans z5⟩
   have HK : Hid (∀ (E : Array Value) u, (E = #[.slice ho hn1 hc1, .slice ko kn kc, .int .i64 c.kd, .slice vo vn vc, .int .i64 c.pg, .int .i64 c.ct] ∨ E = #[.slice zo zn zc, .slice yo yn yc, .int .i64 z.kd, .slice xo xn xc, .int .i64 z.pg, .int .i64 z.ct]) → Below w.heap.size w u → Calls Tryz.prog 132 #[.agg E] u fun e w' => ∃ a m cp t, e = .returned (.slice a m cp) ∧ Hid ((Sl w' a m cp t ∧ Nw w.heap.size a m) ∧ (t = c.key ∨ t = z.key) ∧ (E = #[.slice ho hn1 hc1, .slice ko kn kc, .int .i64 c.kd, .slice vo vn vc, .int .i64 c.pg, .int .i64 c.ct] → t = c.key) ∧ (E = #[.slice zo zn zc, .slice yo yn yc, .int .i64 z.kd, .slice xo xn xc, .int .i64 z.pg, .int .i64 z.ct] → t = z.key)) ∧ Hid (Below u.heap.size u w')) := hidden (by
    have huq : #[Value.slice ho hn1 hc1, Value.slice ko kn kc, Value.int .i64 c.kd, Value.slice vo vn vc, Value.int .i64 c.pg, Value.int .i64 c.ct] = #[Value.slice zo zn zc, Value.slice yo yn yc, Value.int .i64 z.kd, Value.slice xo xn xc, Value.int .i64 z.pg, Value.int .i64 z.ct] → c.key = z.key := by
     intro hE
     obtain ⟨l1, l2, s1, s2, e1⟩ := hpc0
     obtain ⟨l3, l4, s3, s4, e2⟩ := hpc1
     simp only [Array.mk.injEq, List.cons.injEq, Value.slice.injEq] at hE
     obtain ⟨⟨rfl, rfl, rfl⟩, ⟨rfl, rfl, rfl⟩, _⟩ := hE
     rw [← e1, ← e2, s1.uniq s3, s2.uniq s4]
    intro E u hE hu
    rcases hE with rfl | rfl
    ·refine (hkey0 u hu).mono ?_
     rintro e w' ⟨a', cp, rfl, HS', HB'⟩
     exact ⟨a', _, cp, c.key, rfl, hidden ⟨⟨HS'.out.1, HS'.out.2.low hu.size⟩, .inl rfl, fun _ => rfl, huq⟩, HB'⟩
    ·refine (hkey1 u hu).mono ?_
     rintro e w' ⟨a', cp, rfl, HS', HB'⟩
     exact ⟨a', _, cp, z.key, rfl, hidden ⟨⟨HS'.out.1, HS'.out.2.low hu.size⟩, .inr rfl, fun h => (huq h.symm).symm, fun _ => rfl⟩, HB'⟩)
   have HLC := hidden (lcp_le c.key z.key)
   rw [HEQ.out]
   obtain ⟨K, hK⟩ : ∃ K, c.key.length = K := ⟨_, rfl⟩
   obtain ⟨Z, hZ⟩ : ∃ Z, z.key.length = Z := ⟨_, rfl⟩
   clear h2 hr2 hf2 hci hzi he0 he1 hkey0 hkey1 hpc0 hpc1 hll hM
   go_enter Tryz.func127, Tryz.ntmps127
   go_wp2_with (first | (go_at_call 91; refine same_call (HSW.out _) ?_))
   go_region_with (first | (go_at_call 132; refine (HK.out _ _ (by first | exact .inl rfl | exact .inr rfl) (by first | exact Below.refl _ _ | exact (Below.refl _ _).drew | exact bl_dr (Below.refl _ _) _ | exact HB1.out | exact HB1.out.drew | exact bl_dr HB1.out _ | exact (bl_dr HB1.out _).drew)).mono ?_; first | (have _hh := HB1; rintro e w2 ⟨a2, m2, p2, t2, rfl, HS2, HB2⟩) | (rintro e w1 ⟨a1, m1', p1, t1, rfl, HS1, HBx⟩; have HB1 : Hid (Below w.heap.size w w1) := hidden (bl_go (by first | exact Below.refl _ _ | exact (Below.refl _ _).drew | exact bl_dr (Below.refl _ _) _) (Nat.le_refl _) HBx.out); obtain ⟨m0, m1, m2, m3, m4, m5, m6, m7, m8, m9, mA, mB⟩ := HCE.out _ HB1.out)))
   all_goals
    have e1 : t1 = c.key := HS1.out.2.2.1 (by first | trivial | rfl)
    have e2 : t2 = z.key := HS2.out.2.2.2 (by first | trivial | rfl)
    have HSA : Hid (Sl w2 a1 m1' p1 c.key) := hidden (by rw [← e1]; exact HS1.out.1.1.on (Nat.le_refl _) HB2.out)
    have HSZ : Hid (Sl w2 a2 m2 p2 z.key) := hidden (by rw [← e2]; exact HS2.out.1.1)
    have HBW : Hid (Below w.heap.size w w2) := hidden (bl_go HB1.out (Nat.le_refl _) HB2.out)
    have hpl := HSA.out.hlen
    have hpc := HSA.out.hcap
    obtain ⟨q, hq⟩ : ∃ q, lcp c.key z.key = q := ⟨_, rfl⟩
    have hq1 := HLC.out.1
    rw [hq] at hq1
    have hqI : (q : Int) ≤ (p1 : Int) := by omega
    have HTK : Hid (∀ u, Below w2.heap.size w2 u → Sl u a1 q p1 (c.key.take (lcp c.key z.key))) := hidden (by
     intro u hu
     rw [hq]
     exact (HSA.out.on (Nat.le_refl _) hu).take q (by omega))
    have HCM : Hid (∀ u g, Below w2.heap.size w2 u → u.heap[g]? = some (.cells #[.slice a1 m1' p1, .slice a2 m2 p2] 25 (0, 0)) → Calls Tryz.prog 125 #[.slice (some ⟨g, 0, none⟩) 2 2] u fun e w' => e = .returned (.int .i64 (q : Int)) ∧ ∃ q, w' = u.drewN q) := hidden (by
     intro u g hu hg
     have := common_any (some ⟨g, 0, none⟩) 2 2 c.key [z.key] u (sls_two hg (HSA.out.on (Nat.le_refl _) hu) (HSZ.out.on (Nat.le_refl _) hu))
     rwa [cmN_two, hq] at this)
    have HNW : Hid (Nw w.heap.size a1 q) := hidden (HS1.out.1.2.less (by omega))
    clear e1 e2 HS1 HS2 HSZ hq
    go_wp2_with (first | (go_at_call 125; refine (HCM.out _ _ (by first | exact bl_al (Below.refl _ _) (Nat.le_refl _) _ | exact bl_al ((Below.refl _ _).drew) (Nat.le_refl _) _ | exact bl_al (bl_dr (Below.refl _ _) _) (Nat.le_refl _) _) (by exact heap_alloc_last _ _)).mono ?_; rintro e w4 ⟨rfl, q4, rfl⟩))
    go_ret
    exact ⟨a1, q, p1, rfl, hidden (HTK.out _ (by first | exact bl_dr (bl_al (Below.refl _ _) (Nat.le_refl _) _) _ | exact bl_dr (bl_al ((Below.refl _ _).drew) (Nat.le_refl _) _) _ | exact bl_dr (bl_al (bl_dr (Below.refl _ _) _) (Nat.le_refl _) _) _)), hidden (by first | exact bl_dr (bl_al HBW.out (Nat.le_refl _) _) _ | exact bl_dr (bl_al HBW.out.drew (Nat.le_refl _) _) _ | exact bl_dr (bl_al (bl_dr HBW.out _) (Nat.le_refl _) _) _), HNW⟩
end Go.Proofs.YtlhkinlgolcpaaaGreatDoor

namespace Go.Proofs.YtlhkinlgolcpaaaGreatDoor
set_option maxRecDepth 100000
open Go.RowKit
def cutn (m : Nat) (f : Bool) (cs : List Cl) : Nat := if f = true ∧ cs = [] then 0 else m
theorem qbd_snoc (m : Nat) : ∀ (f : Bool) (cs : List Cl) (c : Cl), qbd m f (cs ++ [c]) = qbd m f cs ++ qB (cutn m f cs) c
 | f, [], c => by cases f <;> simp [qbd, cutn]
 | f, d :: r, c => by
  have ih := qbd_snoc m false r c
  simp only [List.cons_append, qbd, ih, List.append_assoc]
  simp [cutn]
theorem qst_snoc (m : Nat) : ∀ (f : Bool) (b : Nat) (cs : List Cl) (c : Cl), qst m f b (cs ++ [c]) = qst m f b cs ++ [b + (qbd m f cs).length]
 | f, b, [], c => by simp [qst, qbd]
 | f, b, d :: r, c => by
  have ih := qst_snoc m false (b + (qB (if f then 0 else m) d).length) r c
  simp only [List.cons_append, qst, ih, qbd, List.length_append]
  rw [Nat.add_assoc]
theorem qst_le (m : Nat) : ∀ (f : Bool) (b : Nat) (cs : List Cl) (s : Nat), s ∈ qst m f b cs → s ≤ b + (qbd m f cs).length
 | _, _, [], s, h => by simp [qst] at h
 | f, b, c :: r, s, h => by
  simp only [qst, List.mem_cons] at h
  simp only [qbd, List.length_append]
  rcases h with rfl | h
  ·omega
  ·have := qst_le m false _ r s h
   omega
theorem wrL_laid (k : Int) (n : Nat) (P : List Int) (cs : List Cl) : wrL k n P (qbd P.length (whl k) cs) (qst P.length (whl k) 0 cs) = pkL k n P cs := by
 unfold wrL pkL
 rw [qst_length, ← qst_shift, Nat.add_zero, szQ_eq]
theorem qbd_pre (m : Nat) : ∀ (f : Bool) (cs : List Cl) (j : Nat), (qbd m f (cs.take j)).length ≤ (qbd m f cs).length
 | _, [], _ => by simp
 | f, c :: r, 0 => by simp [qbd]
 | f, c :: r, j + 1 => by
  have := qbd_pre m false r j
  simp only [List.take_succ_cons, qbd, List.length_append]
  omega
theorem cutn_at (k : Int) (m : Nat) (cs : List Cl) (j : Nat) (hj : j ≤ cs.length) : cutn m (whl k) (cs.take j) = if k = 3 ∧ j = 0 then 0 else m := by
 unfold cutn whl
 have : cs.take j = [] ↔ j = 0 := by
  rw [List.take_eq_nil_iff]
  constructor
  ·rintro (h | h)
   ·exact h
   ·subst h; simpa using hj
  ·exact .inl
 simp [this]
theorem Beg.cut_le {k : Int} {P : List Int} {cs : List Cl} (h : Beg k P cs) (j : Nat) (c : Cl) (hj : cs[j]? = some c) : (if k = 3 ∧ j = 0 then 0 else P.length) ≤ c.key.length := by
 split
 ·omega
 ·next hc => exact beg_len (h c (mem_ktl hj hc))
end Go.Proofs.YtlhkinlgolcpaaaGreatDoor
