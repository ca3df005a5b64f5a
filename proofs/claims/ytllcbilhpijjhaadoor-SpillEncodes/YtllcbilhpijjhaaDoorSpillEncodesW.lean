/- The walk of the law SpillEncodes. -/
import Derived.Test.YtllcbilhpijjhaaDoorJb
namespace Go.Proofs.YtllcbilhpijjhaaDoor
open Go.RowKit

/-- The page, or none. -/
def pgL (n : Int) (d : List Int) (p : Int) : List Int := if spE n d p = 0 then spB n d p.toNat else []
set_option maxRecDepth 100000 in
theorem pgL_wf {n : Int} {d : List Int} {p : Int} (h : Wf d) : Wf (pgL n d p) := by
  unfold pgL
  split
  · exact spB_wf _ h
  · exact Wf.nil
set_option maxRecDepth 100000 in
theorem pgL_len {n : Int} {d : List Int} {p : Int} : (pgL n d p).length ≤ 65536 := by
  unfold pgL
  split
  · rename_i h
    obtain ⟨h1, _, h3, h4⟩ := spE_zero.1 h
    have := pw_le h1
    rw [spB_length _ _ _ (by omega)]
    omega
  · simp
set_option maxRecDepth 100000 in
theorem encU (n p : Int) (ao : Option Addr) (dn cap : Nat) (d : List Int) (w : World) (hs : Sl w ao dn cap d) (ht : Tab w) (h0 : 0 < w.heap.size) :
    Calls Tryd.prog 10 #[.int .i64 n, .slice ao dn cap, .int .i64 p] w fun e w' => ∃ eo en, e = .returned (.tuple #[.slice eo en en, .int .i64 (spE n d p)]) ∧ Hid (OwnB w' w.heap.size (.slice eo en en) (pgL n d p)) ∧ Hid (Below w.heap.size w w') := by
  refine (encS_any n p ao dn cap d w hs ht h0).mono ?_
  intro e w' hE
  obtain ⟨eo, en, k, rfl, hb, hk⟩ := hE.shape
  rcases hk.out with ⟨hz, rfl, g, rfl, rfl, hg, hbk⟩ | ⟨hz, hk0, rfl, rfl⟩
  · obtain ⟨h1, _, h3, h4⟩ := spE_zero.1 hz
    have hp := pw_le h1
    refine ⟨_, _, by rw [hz], ?_, hb⟩
    have hl := spB_length n d p.toNat (by omega)
    have := own_of_heap (l := spB n d p.toNat) hbk hg (by rw [hl]; unfold maxLen; omega)
    rw [hl] at this
    unfold pgL
    rw [if_pos hz]
    exact this
  · refine ⟨_, _, by rw [hz], ?_, hb⟩
    unfold pgL
    rw [if_neg (by rw [hz]; exact hk0)]
    exact OwnB.nil _ _
set_option maxRecDepth 100000 in
theorem refU (n p : Int) (ao : Option Addr) (dn cap : Nat) (d : List Int) (w : World) (hs : Sl w ao dn cap d) :
    Calls Tryd.prog 7 #[.int .i64 n, .slice ao dn cap, .int .i64 p] w fun e w' => ∃ ro rn rc, e = .returned (.tuple #[.slice ro rn rc, .int .i64 (spE n d p)]) ∧ Hid (Sl w' ro rn rc (pgL n d p)) ∧ Hid (Below w.heap.size w w') := by
  refine (refEnc_any n p ao dn cap d w hs).mono ?_
  rintro e w' ⟨ro, rn, rc, k, rfl, hb, hq⟩
  obtain ⟨rfl, ⟨hk, hsl⟩ | ⟨hk, rfl, rfl, rfl⟩⟩ := hq.out
  · refine ⟨_, _, _, rfl, ?_, hb⟩
    unfold pgL
    rw [if_pos hk]
    exact hsl
  · refine ⟨_, _, _, rfl, ?_, hb⟩
    unfold pgL
    rw [if_neg hk]
    exact ⟨rfl, Nat.le_refl _, by omega, Wf.nil, fun _ => rfl, .inl rfl⟩
set_option maxRecDepth 100000 in
theorem bk_lent {w : World} {g n : Nat} {l : List Int} (h : Bk w g (l ++ mks 9)) (hl : l.length = n) (hw : Wf l) (hn : n ≤ 140737488355328) : Sl w (some ⟨g, 0, none⟩) n (n + 9) l := by
  refine ⟨hl, by omega, hn, hw, (by intro h; cases h), .inr ⟨g, 0, rfl, lt_some h, fun i hi => ?_⟩⟩
  rw [Nat.zero_add, h.cell i (by rw [List.length_append]; omega)]
  simp [List.getD, List.getElem?_append_left (show i < l.length by omega)]
set_option maxRecDepth 100000 in
theorem own_in {w : World} {B : Nat} {v : Value} {l : List Int} {k : Nat} (h : OwnB w B v l) (hk : v.ownBlock = some k) : B ≤ k ∧ k < w.heap.size := by
  unfold OwnB at h
  rcases h.2 with ⟨rfl, _⟩ | ⟨g, cap, cur, rfl, hg, hh, _⟩
  · cases hk
  · cases hk
    exact ⟨hg, lt_some hh⟩
set_option maxRecDepth 100000 in
theorem ownX_in {w : World} {B : Nat} {v : Value} {l : List Value} {k : Nat} (h : OwnX w B v l) (hk : v.ownBlock = some k) : B ≤ k ∧ k < w.heap.size := by
  unfold OwnX at h
  rcases h.2 with ⟨rfl, _⟩ | ⟨g, cap, cur, rfl, hg, hh, _⟩
  · cases hk
  · cases hk
    exact ⟨hg, lt_some hh⟩
set_option maxRecDepth 100000 in
/-- Two blocks, the one made behind the other. -/
theorem own_two {w u : World} {B C : Nat} {v x : Value} {l m : List Int} (h : OwnB w B v l) (k : OwnB u C x m) (hC : w.heap.size ≤ C) : v.ownBlock = none ∨ v.ownBlock ≠ x.ownBlock := by
  cases hv : v.ownBlock with
  | none => exact .inl rfl
  | some a =>
    right
    intro e
    have h1 := own_in h hv
    have h2 := own_in k e.symm
    omega
set_option maxRecDepth 100000 in
/-- copy into a block that is known whole: nothing else turns. -/
theorem copy_cf {w : World} {ops : Array Oper} {rest : List Oper} {o : Oper} {a : Act} {Q : Exit → Act → World → Prop} (hgd : o.guard = none) (d s : Operand) (dT sT : TypeId)
    (ho : o.op = .call { callee := .builtin .copy, args := #[d, s], argTypes := #[dT, sT] }) (elem : TypeId) (hu : Tryd.prog.underlying dT = some (.slice elem)) (hsz : (Tryd.prog.info? elem).map (·.size) = some 1)
    (dp sp : Option Addr) (dLen dCap sLen sCap : Nat) (hd : a.eval d = .slice dp dLen dCap) (hs : a.eval s = .slice sp sLen sCap)
    (g off : Nat) (cur : List Value) (t : TypeId) (hg : w.heap[g]? = some (.cells cur.toArray t (0, 0))) (cs : List Value) (hn : cs.length = Nat.min sLen dLen)
    (hpos : 0 < cs.length → dp = some ⟨g, off, none⟩ ∧ ∃ ad, sp = some ad ∧ ∀ j v, cs[j]? = some v → w.cell? (ad.add j) = some v)
    (hfit : off + cs.length ≤ cur.length) (h1 : ∀ v ∈ cs, v.oneCell' = true)
    (h : ∀ w', Hid (w'.heap[g]? = some (.cells (splice cur off cs).toArray t (0, 0))) → Hid (Cf (· = g) w w') → wpList Tryd.prog ops Q rest (a.put o.dst (goInt cs.length)) w') :
    wpList Tryd.prog ops Q (o :: rest) a w := by
  by_cases h0 : cs.length = 0
  · obtain rfl : cs = [] := List.eq_nil_of_length_eq_zero h0
    refine wpList_copy_nothing hgd d s dT sT ho elem hu hsz dp sp dLen dCap sLen sCap hd hs (by simpa using hn.symm) ?_
    exact h w (show _ = _ by simpa [splice] using hg) (hidden (Cf.refl _ _))
  · obtain ⟨rfl, ad, rfl, hsrc⟩ := hpos (by omega)
    refine wpList_copy_own hgd d s dT sT ho elem hu hsz g off dLen dCap ad sLen sCap hd hs cur.toArray t hg cs hn hsrc (by simpa using hfit) h1 ?_
    exact h _ (show _ = _ by simpa [splice] using setRow_heap w g _ _ t _ hg) (hidden ⟨rfl, rfl, rfl, by simp [World.setRow], fun k _ hf => setRow_other _ _ _ _ hf⟩)
set_option maxRecDepth 100000 in
/-- Take, with what it keeps. -/
theorem take9B (w : World) (B bk : Nat) (v : Value) (V : List Value) (D : Nat → List Int) (ao : Option Addr) (n c : Nat) (l : List Int) (h : Bo9 w B bk v V D) (hn : V.length ≤ 1000) (hB : B ≤ w.heap.size) (hbk : B ≤ bk) (ho : OwnB w B (.slice ao n c) l) (hw : Wf l) (hl : l.length ≤ 65536)
    (hne : ∀ (t : Nat) (u : Value), V[t]? = some u → u.ownBlock = none ∨ u.ownBlock ≠ (Value.slice ao n c).ownBlock) :
    Calls Tryd.prog 12 #[.pointer (some ⟨bk, 0, none⟩), .slice ao n c] w fun e w' => e = .returned (.tuple #[]) ∧ ∃ v' D', Hid (Bo9 w' B bk v' (V ++ [.slice ao n c]) D') ∧ Hid (Cf (B ≤ ·) w w') ∧ Hid (∀ C u m, OwnB w C u m → OwnB w' C u m) := by
  refine (take9 w B bk v V D ao n c l h hn hB ho hw hl hne).mono ?_
  rintro e w' ⟨rfl, hq⟩
  obtain ⟨v', hb, hc⟩ := hq.out
  refine ⟨rfl, v', _, hidden hb, hidden (hc.wide ?_), hidden ?_⟩
  · rintro k (rfl | hk)
    · exact hbk
    · exact (ownX_in h.row hk).1
  · intro C u m hu
    refine hu.cf hc ?_
    rintro k hk (rfl | hv)
    · exact hu.noty h.box bk_ne8 hk
    · rcases h.row.noB hu with e | e
      · rw [hv] at e; cases e
      · exact e (by rw [hv, hk])
set_option maxRecDepth 100000 in
theorem box9 {w : World} {B bk : Nat} (h : w.heap[bk]? = some (.cells #[.slice none 0 0] 32 (0, 0))) : Bo9 w B bk (.slice none 0 0) [] (fun _ => []) :=
  ⟨h, OwnX.nil _ _, fun t u ht => by simp at ht, fun t t' u u' ht => by simp at ht⟩
set_option maxRecDepth 100000 in
set_option maxHeartbeats 16000000 in
theorem walk_SpillEncodes (n : Int) (ao : Option Addr) (dn cap : Nat) (d : List Int) (p : Int) (w : World) (ht : Tab w) (h0 : 0 < w.heap.size) (hs : Sl w ao dn cap d) :
    Calls Tryd.prog 3 #[.int .i64 n, .slice ao dn cap, .int .i64 p] w fun e w' => e = .returned (.bool true) ∧ Below w.heap.size w w' := by
  obtain ⟨i0, hi, hz0, hz1, hz2⟩ := info_parts info5
  have hsz : (Tryd.prog.info? 5).map (·.size) = some 1 := by rw [hi]; simp [hz1]
  have HAW := hidden (awake_any w ht h0)
  have HT := hidden ht
  have HS := hidden hs
  have HL := hidden hs.hlen
  have hr := hs.hroom
  have HWD := hidden hs.wf
  clear ht hs hi hz0 hz1 hz2
  obtain ⟨T, hT⟩ : ∃ T, trn d dn = T := ⟨_, rfl⟩
  have HTL : Hid (T.length = dn) := hidden (by rw [← hT, trn_length])
  have HTW : Hid (Wf T) := hidden (by rw [← hT]; exact trn_wf HWD.out dn)
  have HTE := hidden hT
  have HEQ : Hid (spE n T p = spE n d p) := hidden (spE_len (by rw [HTL.out, HL.out]))
  clear hT
  go_enter Tryd.func3, Tryd.ntmps3
  go_wp2_with (first
    | (go_at_call 6; refine HAW.out.mono ?_; rintro e w1 ⟨rfl, HB1⟩; refine Hid.out ?_))
  apply hidden
  have HR1 := hidden (refU n p ao dn cap d w1 (HS.out.on (Nat.le_refl _) HB1.out))
  clear HAW
  go_wp2_with (first
    | (go_at_call 7; refine HR1.out.mono ?_; rintro e w2 ⟨ro, rn, rc, rfl, HW2, HBa⟩; refine Hid.out ?_))
  apply hidden
  have HB2 := hidden (bl_go HB1.out (Nat.le_refl _) HBa.out)
  have HTU := hidden (turned_any ao dn cap d w2 (HS.out.on (Nat.le_refl _) HB2.out))
  rw [HTE.out] at HTU
  clear HR1 HBa HB1
  go_wp2_with (first
    | (go_at_call 8; refine HTU.out.mono ?_; rintro e w3 ⟨to, tc, rfl, HOT, HBa⟩; refine Hid.out ?_))
  apply hidden
  have HB3 := hidden (bl_go HB2.out (Nat.le_refl _) HBa.out)
  have HW3 : Hid (Sl w3 ro rn rc (pgL n d p)) := hidden (HW2.out.on (Nat.le_refl _) HBa.out)
  have HT3 : Hid (Sl w3 to dn tc T) := hidden (HOT.out.sl2 HTW.out (by rw [HTL.out]; exact hr))
  have HR2 := hidden (refU n p to dn tc T w3 HT3.out)
  rw [HEQ.out] at HR2
  clear HTU HBa HB2 HW2 HOT
  go_wp2_with (first
    | (go_at_call 7; refine HR2.out.mono ?_; rintro e w4 ⟨qo, qn, qc, rfl, HQ4, HBa⟩; refine Hid.out ?_))
  apply hidden
  have HB4 := hidden (bl_go HB3.out (Nat.le_refl _) HBa.out)
  have HW4 : Hid (Sl w4 ro rn rc (pgL n d p)) := hidden (HW3.out.on (Nat.le_refl _) HBa.out)
  have HT4 : Hid (Sl w4 to dn tc T) := hidden (HT3.out.on (Nat.le_refl _) HBa.out)
  have HLE := hidden (Lent_any ao dn cap d w4 (HS.out.on (Nat.le_refl _) HB4.out))
  clear HR2 HBa HB3 HW3 HT3
  obtain ⟨g, hg⟩ : ∃ g, w4.heap.size = g := ⟨_, rfl⟩
  rw [hg] at HLE
  go_wp2_with (first
    | (go_at_call 9; refine HLE.out.mono ?_; rintro e w5 ⟨rfl, hk5, hb5⟩; have HK5 := hidden hk5; have HBa := hidden hb5; clear hk5 hb5; refine Hid.out ?_))
  apply hidden
  rw [← hg] at HBa
  have HG : Hid (w.heap.size ≤ g) := hidden (by rw [← hg]; exact HB4.out.size)
  have HB5 := hidden (bl_go HB4.out (Nat.le_refl _) HBa.out)
  have HW5 : Hid (Sl w5 ro rn rc (pgL n d p)) := hidden (HW4.out.on (Nat.le_refl _) HBa.out)
  have HQ5 : Hid (Sl w5 qo qn qc (pgL n T p)) := hidden (HQ4.out.on (Nat.le_refl _) HBa.out)
  have HT5 : Hid (Sl w5 to dn tc T) := hidden (HT4.out.on (Nat.le_refl _) HBa.out)
  have HFT : Hid (dn = 0 ∨ ∀ p, to = some p → ¬ p.block = g) := hidden (by
    rcases HT4.out.hat with h | ⟨b, o, rfl, hlt, _⟩
    · exact .inl h
    · right; intro p hp e; cases hp; simp only at e; omega)
  have HFW : Hid (rn = 0 ∨ ∀ p, ro = some p → ¬ p.block = g) := hidden (by
    rcases HW4.out.hat with h | ⟨b, o, rfl, hlt, _⟩
    · exact .inl h
    · right; intro p hp e; cases hp; simp only at e; omega)
  have HFQ : Hid (qn = 0 ∨ ∀ p, qo = some p → ¬ p.block = g) := hidden (by
    rcases HQ4.out.hat with h | ⟨b, o, rfl, hlt, _⟩
    · exact .inl h
    · right; intro p hp e; cases hp; simp only at e; omega)
  have HG5 : Hid (g < w5.heap.size) := hidden (lt_some HK5.out)
  have HT0 : Hid (Tab w5) := HT.out.on HB5.out h0
  have HE1 := hidden (encU n p _ dn (dn + 9) d w5 (bk_lent HK5.out HL.out HWD.out hr) HT0.out (Nat.lt_of_lt_of_le h0 HB5.out.size))
  clear HLE HBa HW4 HQ4 HT4 hg
  go_wp2_with (first
    | (go_at_call 10; refine HE1.out.mono ?_; rintro e w6 ⟨eo, en, rfl, HA6, HBb⟩; refine Hid.out ?_))
  apply hidden
  have HB6 := hidden (bl_go HB5.out (Nat.le_refl _) HBb.out)
  have HK6 : Hid (Bk w6 g (d ++ mks 9)) := hidden (Bk.on HK5.out HBb.out)
  have HE2 := hidden (encU n p _ dn (dn + 9) d w6 (bk_lent HK6.out HL.out HWD.out hr) (HT.out.on HB6.out h0) (Nat.lt_of_lt_of_le h0 HB6.out.size))
  clear HE1 HK5
  obtain ⟨sd, hsd⟩ : ∃ sd, strOfNums d = sd := ⟨_, rfl⟩
  go_wp2_with (first
    | (go_at_call 10; refine HE2.out.mono ?_; rintro e w7 ⟨fo, fn, rfl, HF7, HBc⟩; refine Hid.out ?_))
  apply hidden
  have HB7 := hidden (bl_go HB6.out (Nat.le_refl _) HBc.out)
  have HBd := hidden (bl_go HBb.out (Nat.le_refl _) HBc.out)
  have HK7 : Hid (Bk w7 g (d ++ mks 9)) := hidden (HK6.out.on HBc.out)
  have HA7 : Hid (OwnB w7 w5.heap.size (.slice eo en en) (pgL n d p)) := hidden (HA6.out.on (Nat.le_refl _) HBc.out)
  have k1 := conv_sl (bk_lent HK7.out HL.out HWD.out hr)
  have k2 := conv_sl (HS.out.on (Nat.le_refl _) HB7.out)
  rw [hsd] at k1 k2
  have eS : (sd.toList == sd.toList) = true := by simp
  have HT7 : Hid (Sl w7 to dn tc T) := hidden (HT5.out.on (Nat.le_refl _) HBd.out)
  have HPP : Hid (0 < (By T).length → some (⟨g, 0, none⟩ : Addr) = some ⟨g, 0, none⟩ ∧ ∃ ad, to = some ad ∧ ∀ j v, (By T)[j]? = some v → w7.cell? (ad.add j) = some v) := hidden (by
    intro h
    rw [By_length, HTL.out] at h
    rcases HT7.out.hat with h1 | ⟨b, o, rfl, _, _⟩
    · omega
    · exact ⟨rfl, _, rfl, sl_src5 HT7.out⟩)
  have HNA : Hid (∀ (u : World) (C : Nat) (x : Value) (m : List Int), OwnB u C x m → w6.heap.size ≤ C → Hid ((Value.slice eo en en).ownBlock = none ∨ (Value.slice eo en en).ownBlock ≠ x.ownBlock)) := hidden (fun u C x m hx hC => hidden (own_two HA6.out hx hC))
  have HS56 : Hid (w5.heap.size ≤ w6.heap.size) := hidden HBb.out.size
  have HSW5 : Hid (w.heap.size ≤ w5.heap.size) := hidden HB5.out.size
  clear HE2 HK6 HA6
  have HNab : Hid ((Value.slice eo en en).ownBlock = none ∨ (Value.slice eo en en).ownBlock ≠ (Value.slice fo fn fn).ownBlock) := HNA.out _ _ _ _ HF7.out (Nat.le_refl _)
  go_wp2_with (refine copy_cf rfl _ _ 22 22 rfl 5 Tryd.underlying22 hsz _ _ dn (dn + 9) dn tc rfl rfl g 0 (By (d ++ mks 9)) 5 HK7.out (By T) (by rw [By_length, HTL.out]; exact (Nat.min_self dn).symm) HPP.out (by rw [By_length, By_length, HTL.out, List.length_append, HL.out]; omega) (By_one T) ?_; refine Hid.out ?_)
  apply hidden
  intro w8 HH HC8
  have HK8 : Hid (Bk w8 g (T ++ mks 9)) := hidden (by
    have e := HH.out
    rw [By_splice5] at e
    have e2 : splice (d ++ mks 9) 0 T = T ++ mks 9 := by
      simp only [splice, List.take_zero, List.nil_append, Nat.zero_add, HTL.out]
      rw [← HL.out, List.drop_left]
    rw [e2] at e
    exact e)
  have HB8 : Hid (Below w.heap.size w w8) := hidden (HB7.out.trans (HC8.out.below HB7.out.size (fun k hk e => by have := HG.out; omega)))
  have HS58 : Hid (w5.heap.size ≤ w8.heap.size) := hidden (Nat.le_trans HBd.out.size HC8.out.size)
  have HS68 : Hid (w6.heap.size ≤ w8.heap.size) := hidden (Nat.le_trans HBc.out.size HC8.out.size)
  have HS78 : Hid (w7.heap.size ≤ w8.heap.size) := hidden HC8.out.size
  have HG6 : Hid (g < w6.heap.size) := hidden (Nat.lt_of_lt_of_le HG5.out HBb.out.size)
  have HA8 : Hid (OwnB w8 w5.heap.size (.slice eo en en) (pgL n d p)) := hidden (HA7.out.cf HC8.out (fun k hk e => by have := own_in HA7.out hk; have := HG5.out; omega))
  have HF8 : Hid (OwnB w8 w6.heap.size (.slice fo fn fn) (pgL n d p)) := hidden (HF7.out.cf HC8.out (fun k hk e => by have := own_in HF7.out hk; have := HG6.out; omega))
  have HW8 : Hid (Sl w8 ro rn rc (pgL n d p)) := hidden ((HW5.out.on (Nat.le_refl _) HBd.out).cf HC8.out HFW.out)
  have HQ8 : Hid (Sl w8 qo qn qc (pgL n T p)) := hidden ((HQ5.out.on (Nat.le_refl _) HBd.out).cf HC8.out HFQ.out)
  have HT8 : Hid (Sl w8 to dn tc T) := hidden (HT7.out.cf HC8.out HFT.out)
  have HE3 := hidden (encU n p _ dn (dn + 9) T w8 (bk_lent HK8.out HTL.out HTW.out hr) (HT.out.on HB8.out h0) (Nat.lt_of_lt_of_le h0 HB8.out.size))
  rw [HEQ.out] at HE3
  clear HH HC8 HK7 HA7 HT7 HPP HBb HBc HBd k1 k2 HW5 HQ5 HT5 HB5 HB6 HB7 HT0
  go_wp2_with (first
    | (go_at_call 10; refine HE3.out.mono ?_; rintro e w9 ⟨co, cn, rfl, HC9, HBe⟩; refine Hid.out ?_))
  apply hidden
  have HB9 := hidden (bl_go HB8.out (Nat.le_refl _) HBe.out)
  have HNac : Hid ((Value.slice eo en en).ownBlock = none ∨ (Value.slice eo en en).ownBlock ≠ (Value.slice co cn cn).ownBlock) := hidden (own_two HA8.out HC9.out (Nat.le_refl _))
  have HNbc : Hid ((Value.slice fo fn fn).ownBlock = none ∨ (Value.slice fo fn fn).ownBlock ≠ (Value.slice co cn cn).ownBlock) := hidden (own_two HF8.out HC9.out (Nat.le_refl _))
  have HAS := hidden (AsLent_any g dn to tc T w9 (HK8.out.on HBe.out) (HT8.out.on (Nat.le_refl _) HBe.out))
  go_wp2_with (first
    | (go_at_call 11; refine HAS.out.mono ?_; rintro e w10 ⟨rfl, hc10⟩; have HC10 := hidden hc10; clear hc10; refine Hid.out ?_))
  apply hidden
  have HB10 : Hid (Below w.heap.size w w10) := hidden (HB9.out.trans (HC10.out.below HB9.out.size (fun k hk e => by have := HG.out; omega)))
  have HA : Hid (OwnB w10 w5.heap.size (.slice eo en en) (pgL n d p)) := hidden ((HA8.out.on (Nat.le_refl _) HBe.out).cf HC10.out (fun k hk e => by have := own_in HA8.out hk; have := HG5.out; omega))
  have HF : Hid (OwnB w10 w5.heap.size (.slice fo fn fn) (pgL n d p)) := hidden (((HF8.out.on (Nat.le_refl _) HBe.out).cf HC10.out (fun k hk e => by have := own_in HF8.out hk; have := HG6.out; omega)).low HS56.out)
  have HC : Hid (OwnB w10 w5.heap.size (.slice co cn cn) (pgL n T p)) := hidden ((HC9.out.cf HC10.out (fun k hk e => by have := own_in HC9.out hk; have := HG6.out; have := HS68.out; omega)).low HS58.out)
  have HW : Hid (Sl w10 ro rn rc (pgL n d p)) := hidden ((HW8.out.on (Nat.le_refl _) HBe.out).cf HC10.out HFW.out)
  have HQ : Hid (Sl w10 qo qn qc (pgL n T p)) := hidden ((HQ8.out.on (Nat.le_refl _) HBe.out).cf HC10.out HFQ.out)
  have HSZ : Hid (w5.heap.size ≤ w10.heap.size) := hidden (Nat.le_trans HS58.out (Nat.le_trans HBe.out.size HC10.out.size))
  have HWB : Hid (w.heap.size ≤ w5.heap.size) := HSW5
  clear HE3 HAS HA8 HF8 HC9 HW8 HQ8 HT8 HK8 HC10 HBe HB9 HB8 HS58 HS68 HS78 HG6 HG5 HFT HFW HFQ HNA HS56
  have HLn : Hid ((pgL n d p).length ≤ 65536) := hidden pgL_len
  have HLt : Hid ((pgL n T p).length ≤ 65536) := hidden pgL_len
  have HWn : Hid (Wf (pgL n d p)) := hidden (pgL_wf HWD.out)
  have HWt : Hid (Wf (pgL n T p)) := hidden (pgL_wf HTW.out)
  have k3 := conv_sl (HA.out.sl2 HWn.out (by have := HLn.out; omega))
  have k4 := conv_sl (HF.out.sl2 HWn.out (by have := HLn.out; omega))
  have k5 := conv_sl (HC.out.sl2 HWt.out (by have := HLt.out; omega))
  have k6 := conv_sl HW.out
  have k7 := conv_sl HQ.out
  obtain ⟨sa, hsa⟩ : ∃ sa, strOfNums (pgL n d p) = sa := ⟨_, rfl⟩
  obtain ⟨sb, hsb⟩ : ∃ sb, strOfNums (pgL n T p) = sb := ⟨_, rfl⟩
  rw [hsa] at k3 k4 k6
  rw [hsb] at k5 k7
  clear hsa hsb
  generalize spE n d p = ek at *
  have eA : (sa.toList == sa.toList) = true := by simp
  have eB : (sb.toList == sb.toList) = true := by simp
  have eK : (ek == ek) = true := by simp
  clear HEQ
  obtain ⟨B, hB⟩ : ∃ B, w5.heap.size = B := ⟨_, rfl⟩
  rw [hB] at HA HF HC HSZ HWB
  clear hB
  go_wp2_with (first
    | (go_at_call 12; refine Hid.out ?_))
  apply hidden
  clear k3 k4 k5 k6 k7 HW HQ eA eB eK eS
  obtain ⟨bk, hbk⟩ : ∃ bk, w10.heap.size = bk := ⟨_, rfl⟩
  obtain ⟨x, hx⟩ : ∃ x, w10.alloc (.cells #[.slice none 0 0] 32) = x := ⟨_, rfl⟩
  have hbx : Below w10.heap.size w10 x := by rw [← hx]; exact bl_al (Below.refl _ _) (Nat.le_refl _) _
  have HX0 : Hid (Bo9 x B bk (.slice none 0 0) [] (fun _ => [])) := hidden (box9 (by rw [← hx, ← hbk]; exact Array.getElem?_push_size))
  have HBX := hidden (bl_go HB10.out (Nat.le_refl _) hbx)
  have HAx : Hid (OwnB x B (.slice eo en en) (pgL n d p)) := hidden (HA.out.on (Nat.le_refl _) hbx)
  have HFx : Hid (OwnB x B (.slice fo fn fn) (pgL n d p)) := hidden (HF.out.on (Nat.le_refl _) hbx)
  have HCx : Hid (OwnB x B (.slice co cn cn) (pgL n T p)) := hidden (HC.out.on (Nat.le_refl _) hbx)
  have HSx : Hid (B ≤ x.heap.size) := hidden (Nat.le_trans HSZ.out hbx.size)
  have HBk : Hid (B ≤ bk) := hidden (by rw [← hbk]; exact HSZ.out)
  rw [hx, hbk]
  clear hx hbk hbx HA HF HC HSZ HB10
  have HT1 := hidden (take9B x B bk _ _ _ eo en en _ HX0.out (by simp) HSx.out HBk.out HAx.out HWn.out HLn.out (fun t u ht => by simp at ht))
  refine HT1.out.mono ?_
  rintro e x1 ⟨rfl, v1, D1', HX1, HY1, HO1⟩
  clear HT1 HX0
  have HB1 : Hid (Below w.heap.size w x1) := hidden (HBX.out.trans (HY1.out.below HBX.out.size (fun k hk e => by have := HWB.out; omega)))
  have HS1 : Hid (B ≤ x1.heap.size) := hidden (Nat.le_trans HSx.out HY1.out.size)
  have HT2 := hidden (take9B x1 B bk _ _ _ fo fn fn _ HX1.out (by simp) HS1.out HBk.out (HO1.out _ _ _ HFx.out) HWn.out HLn.out (fun t u ht => by
    have ht0 : t = 0 := by have := (List.getElem?_eq_some_iff.1 ht).1; simpa using this
    subst ht0
    simp at ht
    subst ht
    exact HNab.out))
  have HCx1 : Hid (OwnB x1 B (.slice co cn cn) (pgL n T p)) := hidden (HO1.out _ _ _ HCx.out)
  clear HY1 HO1 HX1 HBX HAx HFx HCx HSx
  go_wp2_with (first
    | (go_at_call 12; refine HT2.out.mono ?_; rintro e x2 ⟨rfl, v2, D2', HX2, HY2, HO2⟩; refine Hid.out ?_))
  apply hidden
  have HB2 : Hid (Below w.heap.size w x2) := hidden (HB1.out.trans (HY2.out.below HB1.out.size (fun k hk e => by have := HWB.out; omega)))
  have HS2 : Hid (B ≤ x2.heap.size) := hidden (Nat.le_trans HS1.out HY2.out.size)
  have HT3 := hidden (take9B x2 B bk _ _ _ co cn cn _ HX2.out (by simp) HS2.out HBk.out (HO2.out _ _ _ HCx1.out) HWt.out HLt.out (fun t u ht => by
    have ht2 : t < 2 := by have := (List.getElem?_eq_some_iff.1 ht).1; simpa using this
    have : t = 0 ∨ t = 1 := by omega
    rcases this with rfl | rfl
    · simp at ht
      subst ht
      exact HNac.out
    · simp at ht
      subst ht
      exact HNbc.out))
  clear HY2 HO2 HX2 HB1 HS1 HCx1 HT2
  go_wp2_with (first
    | (go_at_call 12; refine HT3.out.mono ?_; rintro e x3 ⟨rfl, v3, D3', HX3, HY3, HO3⟩; refine Hid.out ?_))
  apply hidden
  have HB3 : Hid (Below w.heap.size w x3) := hidden (HB2.out.trans (HY3.out.below HB2.out.size (fun k hk e => by have := HWB.out; omega)))
  have HS3 : Hid (B ≤ x3.heap.size) := hidden (Nat.le_trans HS2.out HY3.out.size)
  have HOW := hidden (owned9 x3 B bk 3 _ _ _ HX3.out (by simp) (by omega) HS3.out)
  clear HY3 HO3 HX3 HB2 HS2 HT3
  go_wp2_with (first
    | (go_at_call 13; refine HOW.out.mono ?_; rintro e x4 ⟨rfl, HY4⟩))
  go_ret
  exact ⟨rfl, HB3.out.trans (HY4.out.below HB3.out.size (fun k hk e => by have := HWB.out; omega))⟩
end Go.Proofs.YtllcbilhpijjhaaDoor
