import Derived.Test.YtfgffajgfgifhaaGreatDoorJ39
import Derived.Handy
namespace Go.Proofs.YtfgffajgfgifhaaGreatDoor
set_option maxRecDepth 100000
set_option maxHeartbeats 4000000
open Go.RowKit
theorem delE_all (u : World) (g sn : Nat) (cs : List Cl) (hE : SlE u g (some ⟨g, 0, none⟩) sn sn cs) (hR : zah u g sn) (hsn : sn ≤ 65535) (i j : Nat) (hij : i + 1 = j) (hj : j ≤ sn) :
  Calls Tryz.prog 46 #[.slice (some ⟨g, 0, none⟩) sn sn, .int .i64 (i : Int), .int .i64 (j : Int)] u fun e w' => ∃ d, e = .returned (.slice (some ⟨g, 0, none⟩) d sn) ∧ Hid (SlE w' g (some ⟨g, 0, none⟩) d sn (cs.take i ++ cs.drop j) ∧ d ≤ 65536) ∧ Hid (Below g u w') := by
 have hlen := hE.hlen
 have hgl := hR.lt
 obtain ⟨xs, hx6, hxo⟩ := hE.row6 hR
 have h6 : Row6 u g (xs.take (i * 6) ++ xs.drop (j * 6)) (cs.take i ++ cs.drop j) := Row6.append (hx6.drop j) (hx6.take i)
 have key : ∀ (e : Ending) (w' : World), (e = .returned (.slice (some ⟨g, 0, none⟩) (i + (sn - j)) sn) ∧ Hid (zah w' g sn ∧ ∀ q v, (xs.take (i * 6) ++ xs.drop (j * 6))[q]? = some v → w'.cell? ⟨g, q, none⟩ = some v) ∧ Hid (Cf (· = g) u w')) → ∃ d, e = .returned (.slice (some ⟨g, 0, none⟩) d sn) ∧ Hid (SlE w' g (some ⟨g, 0, none⟩) d sn (cs.take i ++ cs.drop j) ∧ d ≤ 65536) ∧ Hid (Below g u w') := by
  rintro e w' ⟨rfl, HO, HC⟩
  have hB : Below g u w' := HC.out.below (Nat.le_of_lt hgl) (fun k hk e => by omega)
  exact ⟨_, rfl, zaa ⟨SlE.of6 h6 hB (by simp; omega) (by omega) (by omega) HO.out.1.lt HO.out.2, by omega⟩, zaa hB⟩
 by_cases hr : sn - j = 0
 ·exact (delE_end u g sn i j (sn - j) _ xs hxo hij (by omega) hr rfl hsn).mono key
 ·exact (delE_mid u g sn i j (sn - j) _ xs hxo hij (by omega) (by omega) rfl hsn).mono key
theorem own_eq (so : Option Addr) (m n c d : Nat) : (Value.slice so m c).ownBlock = (Value.slice so n d).ownBlock := by cases so <;> rfl
theorem Far.len {po so : Option Addr} {pn m n c d : Nat} (h : Far po pn (.slice so m c)) : Far po pn (.slice so n d) := by
 unfold Far at *
 rw [own_eq so n m d c]
 exact h
def RemR (k : Int) (n : Nat) (s : Qs) (I : Int) (code : Int) (t : Qs) : Prop :=
 (¬ (0 ≤ I ∧ I < (s.cs.length : Int)) ∧ code = 64 ∧ t = s) ∨ ∃ (i : Nat) (d : Cl), I = (i : Int) ∧ s.cs[i]? = some d ∧ ((((k = 3 ∧ i = 0) ∨ s.cs.length = 1) ∧ LayR k n s (s.cs.take i ++ s.cs.drop (i + 1)) code t) ∨ (¬ ((k = 3 ∧ i = 0) ∨ s.cs.length = 1) ∧ code = 0 ∧ t = ⟨s.P, s.cs.take i ++ s.cs.drop (i + 1), s.ws + (qB s.P.length d).length⟩))
theorem ChTo.lay {w u w' : World} {K : Nat → Prop} {a : Nat} {k : Int} {n : Nat} {s : Qs} {cs : List Cl} {S : Int → Qs → Prop} {e : Ending} (hb : Below w.heap.size w u) (hK : ∀ b, K b → b < w.heap.size) (hS : ∀ code t, LayR k n s cs code t → S code t) (h : ∃ code t, e = .returned (.int .i64 code) ∧ Hid (LayR k n s cs code t) ∧ Hid (Pk w' (Zk K u w') a k n t) ∧ Hid (Cf K u w')) : ChTo S K a k n w e w' :=
 ChTo.from (R := LayR k n s cs) hb hK hS h
theorem rem_lay (w : World) (K : Nat → Prop) (a : Nat) (k : Int) (n : Nat) (s : Qs) (h : Pk w K a k n s) (hn : pw n) (i : Nat) (d : Cl) (hd : s.cs[i]? = some d) (hlay : (k = 3 ∧ i = 0) ∨ s.cs.length = 1) :
  Calls Tryz.prog 13 #[.pointer (some ⟨a, 0, none⟩), .int .i64 (i : Int)] w (ChTo (LayR k n s (s.cs.take i ++ s.cs.drop (i + 1))) K a k n w) := by
 have hn2 := zai hn
 have hkl := h.kl
 obtain ⟨po, pn, pc, bo, bn, bc, so, sn, sc, body, st, hA⟩ := h
 obtain ⟨l1, l2, l3, l4, l5⟩ := hA.lens
 have hfit := hA.ok.fit
 have hpg := hA.pgq hn2.2
 have hil := (zH.1 hd).1
 obtain ⟨j, hj⟩ : ∃ j, i + 1 = j := ⟨_, rfl⟩
 rw [hj]
 have HHS := zaa (hasQ w a k n po pn pc bo bn bc so sn sc _ s.P body st hpg i (by omega))
 have HLN := zaa (zba w a k n po pn pc bo bn bc so sn sc _ s.P body st hpg)
 have EN : Hid (Calls Tryz.prog 47 #[.pointer (some ⟨a, 0, none⟩)] w fun e w' => ∃ q, e = .returned (.slice (some ⟨q, 0, none⟩) sn sn) ∧ Hid (SlE w' q (some ⟨q, 0, none⟩) sn sn s.cs ∧ zah w' q sn ∧ w.heap.size ≤ q ∧ q < w'.heap.size) ∧ Hid (Below w.heap.size w w')) := by
  refine zaa ((zdn w a k n po pn pc bo bn bc so sn sc _ s.P body st s.cs hpg hA.lay (by omega)).mono ?_)
  rintro e w' ⟨q, rfl, HS, HB⟩
  exact ⟨q, rfl, zaa ⟨HS.out.1, HS.out.2, HB.out.2.1, HB.out.2.2⟩, zaa HB.out.1⟩
 have HP := zaa (show Pk w K a k n s from ⟨_, _, _, _, _, _, _, _, _, _, _, hA⟩)
 have HN : Hid (Rs (s.cs.take i ++ s.cs.drop j) ∧ (∀ d ∈ s.cs.take i ++ s.cs.drop j, mayP k n d) ∧ (∀ d ∈ s.cs.take i ++ s.cs.drop j, d.Wf)) := zaa (by
  have hmem : ∀ d ∈ s.cs.take i ++ s.cs.drop j, d ∈ s.cs := fun d hd => by
   rcases List.mem_append.1 hd with e | e
   ·exact List.mem_of_mem_take e
   ·exact List.mem_of_mem_drop e
  exact ⟨rs_cut i j (by omega) hA.ok.rs, fun d hd => hA.ok.may d (hmem d hd), fun d hd => hA.ok.wf d (hmem d hd)⟩)
 have HIJ : Hid (i + 1 = j ∧ j ≤ sn ∧ sn ≤ 65535 ∧ n ≤ 65536) := zaa (by omega)
 have HKL := zaa hkl
 have hIJ : (i : Int) + 1 = (j : Int) := by omega
 have hJI : (j : Int) ≤ 65536 := by omega
 obtain ⟨c0, c1, c2, c3, c4, c5⟩ := hA.pg.row.cells
 obtain ⟨bw, hbw⟩ : ∃ bw, decide (k = 3 ∧ (i : Int) = 0) = bw := ⟨_, rfl⟩
 have HSW : Hid (Calls Tryz.prog 44 #[.int .i64 k, .int .i64 (i : Int)] w fun e w' => e = .returned (.bool bw) ∧ w' = w) := zaa (by
  have := zay k (i : Int) w
  rwa [hbw] at this)
 have HL1 : bw = false → Hid ((sn : Int) = 1) := fun e => zaa (by
  rw [e] at hbw
  have := of_decide_eq_false hbw
  omega)
 clear hA hpg l1 l2 l3 l4 l5 hfit hkl hd hil hlay hn hn2 hj hbw
 cases bw with
 | true =>
  clear HL1 HLN
  go_enter Tryz.func13, Tryz.ntmps13
  go_wp2_with (first | (go_at_call 42; refine zae HHS.out ?_) | (go_at_call 44; refine zae HSW.out ?_) | (go_at_call 47; refine EN.out.mono ?_; rintro e w1 ⟨q, rfl, HQ, HB1⟩; refine Hid.out ?_))
  apply zaa
  have HDL := zaa (delE_all w1 q sn s.cs HQ.out.1 HQ.out.2.1 HIJ.out.2.2.1 i j HIJ.out.1 HIJ.out.2.1)
  go_wp2_with (go_at_call 46; refine HDL.out.mono ?_; rintro e w2 ⟨dd, rfl, HS2, HB2⟩; refine Hid.out ?_)
  apply zaa
  have HBW : Hid (Below w.heap.size w w2) := zaa (HB1.out.trans (HB2.out.mono HQ.out.2.2.1))
  have HLY := zaa (lay_any w2 K a k n s (HP.out.go HBW.out) q _ dd sn _ HS2.out.1 (zN (Nat.le_of_lt HQ.out.2.2.2) HB2.out.size) HN.out.1 HN.out.2.1 HN.out.2.2 HIJ.out.2.2.2 HS2.out.2)
  clear HDL
  go_wp2_with (go_at_call 45; refine HLY.out.mono ?_; rintro e w3 ⟨code, t, rfl, HR3, HP3, HC3⟩)
  go_ret
  exact ChTo.lay HBW.out HKL.out (fun _ _ h => h) ⟨code, t, rfl, HR3, HP3, HC3⟩
 | false =>
  rw [(HL1 rfl).out] at HLN
  clear HL1
  go_enter Tryz.func13, Tryz.ntmps13
  go_wp2_with (first | (go_at_call 42; refine zae HHS.out ?_) | (go_at_call 44; refine zae HSW.out ?_) | (go_at_call 26; refine zae HLN.out ?_) | (go_at_call 47; refine EN.out.mono ?_; rintro e w1 ⟨q, rfl, HQ, HB1⟩; refine Hid.out ?_))
  apply zaa
  have HDL := zaa (delE_all w1 q sn s.cs HQ.out.1 HQ.out.2.1 HIJ.out.2.2.1 i j HIJ.out.1 HIJ.out.2.1)
  go_wp2_with (go_at_call 46; refine HDL.out.mono ?_; rintro e w2 ⟨dd, rfl, HS2, HB2⟩; refine Hid.out ?_)
  apply zaa
  have HBW : Hid (Below w.heap.size w w2) := zaa (HB1.out.trans (HB2.out.mono HQ.out.2.2.1))
  have HLY := zaa (lay_any w2 K a k n s (HP.out.go HBW.out) q _ dd sn _ HS2.out.1 (zN (Nat.le_of_lt HQ.out.2.2.2) HB2.out.size) HN.out.1 HN.out.2.1 HN.out.2.2 HIJ.out.2.2.2 HS2.out.2)
  clear HDL
  go_wp2_with (go_at_call 45; refine HLY.out.mono ?_; rintro e w3 ⟨code, t, rfl, HR3, HP3, HC3⟩)
  go_ret
  exact ChTo.lay HBW.out HKL.out (fun _ _ h => h) ⟨code, t, rfl, HR3, HP3, HC3⟩
theorem removeQ_any (w : World) (K : Nat → Prop) (a : Nat) (k : Int) (n : Nat) (s : Qs) (h : Pk w K a k n s) (I : Int) (hn : pw n) :
  Calls Tryz.prog 13 #[.pointer (some ⟨a, 0, none⟩), .int .i64 I] w (ChTo (RemR k n s I) K a k n w) := by
 have hn2 := zai hn
 have hkl := h.kl
 by_cases hin : 0 ≤ I ∧ I < (s.cs.length : Int)
 ·obtain ⟨i, rfl⟩ : ∃ i : Nat, I = (i : Int) := ⟨I.toNat, by omega⟩
  obtain ⟨d, hd⟩ : ∃ d, s.cs[i]? = some d := ⟨_, zI (by omega)⟩
  by_cases hlay : (k = 3 ∧ i = 0) ∨ s.cs.length = 1
  ·exact (rem_lay w K a k n s h hn i d hd hlay).mono fun e w' hq => ChTo.from Br hkl (fun code t hr => .inr ⟨i, d, rfl, hd, .inl ⟨hlay, hr⟩⟩) hq
  ·obtain ⟨po, pn, pc, bo, bn, bc, so, sn, sc, body, st, hA⟩ := h
   obtain ⟨l1, l2, l3, l4, l5⟩ := hA.lens
   have hfit := hA.ok.fit
   have hk0 : ¬ (k = 3 ∧ i = 0) := fun e => hlay (.inl e)
   have hs1 : ¬ s.cs.length = 1 := fun e => hlay (.inr e)
   have hsum := hA.sum
   refine (rem_in w 0 a k n po pn pc bo bn bc so sn sc _ s.P body st hA.pg (by omega) (by omega) i (i + 1) (sn - 1) rfl (by omega) (by omega) (by omega) hk0 s.cs hA.lay d hd hA.wf (by omega) (by omega) _ rfl hA.far).mono ?_
   rintro e w' ⟨rfl, HPO, HC⟩
   have hlv := lvQ_rem k s.P s.cs i (i + 1) d rfl hd hk0
   have hll := hA.lay.rem (i := i) (j := i + 1) rfl (by omega) hk0
   have hmem : ∀ d ∈ s.cs.take i ++ s.cs.drop (i + 1), d ∈ s.cs := fun d hd => by
    rcases List.mem_append.1 hd with e | e
    ·exact List.mem_of_mem_take e
    ·exact List.mem_of_mem_drop e
   refine ⟨0, ⟨s.P, s.cs.take i ++ s.cs.drop (i + 1), s.ws + (qB s.P.length d).length⟩, rfl, zaa (.inr ⟨i, d, rfl, hd, .inr ⟨hlay, rfl, rfl⟩⟩), zaa (hA.put (vb' := .slice bo bn bc) (vs' := .slice so (sn - 1) sc) rfl ?_ hA.far.len (.inl rfl) (.inl (own_eq _ _ _ _ _)) hll hA.wf ⟨hll.beg, rs_cut i (i + 1) (by omega) hA.ok.rs, fun d hd => hA.ok.may d (hmem d hd), fun d hd => hA.ok.wf d (hmem d hd), ?_⟩ ?_ HC.out.size), zaa (hA.cfq HC.out)⟩
   ·have := HPO.out
    rw [show (s.ws : Int) + ((qB s.P.length d).length : Int) = ((s.ws + (qB s.P.length d).length : Nat) : Int) by omega] at this
    exact this
   ·unfold filQ at *
    have : (s.cs.take i ++ s.cs.drop (i + 1)).length + 1 = s.cs.length := by simp; omega
    simp only
    omega
   ·simp only
    omega
 ·obtain ⟨po, pn, pc, bo, bn, bc, so, sn, sc, body, st, hA⟩ := h
  obtain ⟨l1, l2, l3, l4, l5⟩ := hA.lens
  refine (rem_no w a k n po pn pc bo bn bc so sn sc _ s.P body st (hA.pgq hn2.2) I (by omega)).mono ?_
  rintro e w' ⟨rfl, rfl⟩
  exact ChTo.stay ⟨_, _, _, _, _, _, _, _, _, _, _, hA⟩ Br (.inl ⟨hin, rfl, rfl⟩)
theorem Qok.lay {k : Int} {n : Nat} {s : Qs} (h : Qok k n s) : szQ k (shP k s.cs).length s.cs ≤ n := by
 have h1 := szQ_less h.beg
 have h2 := zca k s
 have h3 := h.fit
 omega
theorem tidyQ_any (w : World) (K : Nat → Prop) (a : Nat) (k : Int) (n : Nat) (s : Qs) (h : Pk w K a k n s) (hn : pw n) :
  Calls Tryz.prog 15 #[.pointer (some ⟨a, 0, none⟩)] w fun e w' => e = .returned (.tuple #[]) ∧ Hid (Pk w' (Zk K w w') a k n ⟨shP k s.cs, s.cs, 0⟩) ∧ Hid (Cf K w w') := by
 have hn2 := zai hn
 have HKL := zaa h.kl
 have HP := zaa h
 have HL := zaa h.ok.lay
 have HOK := zaa h.ok
 obtain ⟨po, pn, pc, bo, bn, bc, so, sn, sc, body, st, hA⟩ := h
 obtain ⟨l1, l2, l3, l4, l5⟩ := hA.lens
 have hfit := hA.ok.fit
 have hpg := hA.pgq hn2.2
 have EN : Hid (Calls Tryz.prog 47 #[.pointer (some ⟨a, 0, none⟩)] w fun e w' => ∃ q, e = .returned (.slice (some ⟨q, 0, none⟩) sn sn) ∧ Hid (SlE w' q (some ⟨q, 0, none⟩) sn sn s.cs ∧ q < w'.heap.size) ∧ Hid (Below w.heap.size w w')) := by
  refine zaa ((zdn w a k n po pn pc bo bn bc so sn sc _ s.P body st s.cs hpg hA.lay (by omega)).mono ?_)
  rintro e w' ⟨q, rfl, HS, HB⟩
  exact ⟨q, rfl, zaa ⟨HS.out.1, HB.out.2.2⟩, zaa HB.out.1⟩
 have HSN : Hid (sn ≤ 65536 ∧ n ≤ 65536) := zaa (by omega)
 clear hA hpg l1 l2 l3 l4 l5 hfit hn hn2
 go_enter Tryz.func15, Tryz.ntmps15
 go_wp2_with (go_at_call 47; refine EN.out.mono ?_; rintro e w1 ⟨q, rfl, HQ, HB1⟩; refine Hid.out ?_)
 apply zaa
 have HLY := zaa (lay_any w1 K a k n s (HP.out.go HB1.out) q _ sn sn _ HQ.out.1 (Nat.le_of_lt HQ.out.2) HOK.out.rs HOK.out.may HOK.out.wf HSN.out.2 HSN.out.1)
 clear EN
 go_wp2_with (go_at_call 45; refine HLY.out.mono ?_; rintro e w3 ⟨code, t, rfl, HR3, HP3, HC3⟩)
 refine bodyPost_end (v := .tuple #[]) (by simp [results, Tryz.results15, go_sem]) rfl ?_
 obtain ⟨_, t, _, hr, hp, hc⟩ := ChTo.lay (S := LayR k n s s.cs) HB1.out HKL.out (fun _ _ h => h) ⟨code, t, rfl, HR3, HP3, HC3⟩
 rcases hr.out with ⟨_, _, rfl⟩ | ⟨h1, _⟩
 ·exact ⟨rfl, hp, hc⟩
 ·exact absurd HL.out h1
def Ph (sn l h t : Nat) (S : Int) : Prop := (l = 0 ∧ h = sn ∧ S = 1) ∨ (h = sn ∧ 0 < l ∧ (S ≤ (t : Int) + 1 ∨ t + 1 = sn) ∧ S ≤ 2 * (sn : Int)) ∨ (l = 0 ∧ h < sn ∧ (S ≤ (sn : Int) - (t : Int) ∨ t = 0) ∧ S ≤ 2 * (sn : Int))
def Nr (sn l h : Nat) (A S : Int) : Prop :=
 l ≤ h ∧ h ≤ sn ∧ 1 ≤ S ∧ S ≤ 4 * (sn : Int) + 4 ∧ (l < h → ∃ t : Nat, A = (t : Int) ∧ l ≤ t ∧ t < h ∧ Ph sn l h t S)
def Side (cs : List Cl) (q : List Int) (l h : Nat) : Prop := (∀ i c, i < l → cs[i]? = some c → kl c.key q) ∧ (∀ i c, h ≤ i → cs[i]? = some c → ¬ kl c.key q)
theorem Side.up {cs : List Cl} {q : List Int} {l h t t1 : Nat} {d : Cl} (hs : Side cs q l h) (hr : Rs cs) (hd : cs[t]? = some d) (ho : ordL d.key q = -1) (ht : t1 = t + 1) : Side cs q t1 h := by
 refine ⟨fun i c hi hc => ?_, hs.2⟩
 by_cases e : i = t
 ·subst e
  rw [hd] at hc
  injection hc with hc
  subst hc
  exact ho
 ·exact zbp _ _ _ (rs_at hr (show i < t by omega) hc hd) ho
theorem Side.down {cs : List Cl} {q : List Int} {l h t : Nat} {d : Cl} (hs : Side cs q l h) (hr : Rs cs) (hd : cs[t]? = some d) (ho : ordL d.key q = 1) : Side cs q l t := by
 have hn : ¬ kl d.key q := by unfold kl; omega
 refine ⟨hs.1, fun i c hi hc hk => ?_⟩
 by_cases e : i = t
 ·subst e
  rw [hd] at hc
  injection hc with hc
  subst hc
  exact hn hk
 ·exact hn (zbp _ _ _ (rs_at hr (show t < i by omega) hd hc) hk)
theorem Fnd.here {cs : List Cl} {q : List Int} {t : Nat} {d : Cl} (hr : Rs cs) (hd : cs[t]? = some d) (ho : ordL d.key q = 0) : Fnd cs q t ∧ (true = true ↔ ∃ c, cs[t]? = some c ∧ c.key = q) := by
 have he := ordL_eq _ _ ho
 refine ⟨⟨Nat.le_of_lt (zH.1 hd).1, fun i c hi hc => ?_, fun i c hi hc hk => ?_⟩, ⟨fun _ => ⟨d, hd, he⟩, fun _ => rfl⟩⟩
 ·rw [← he]
  exact rs_at hr hi hc hd
 ·rw [← he] at hk
  by_cases e : i = t
  ·subst e
   rw [hd] at hc
   injection hc with hc
   subst hc
   unfold kl at hk
   rw [zcp] at hk
   cases hk
  ·have h1 := zbp _ _ _ hk (rs_at hr (show t < i by omega) hd hc)
   unfold kl at h1
   rw [zcp] at h1
   cases h1
theorem Nr.up {sn l t t' : Nat} {S : Int} (h : Ph sn l sn t S) (h1 : 1 ≤ S) (ht : t < sn) (ht' : t' = t + 1) : Nr sn t' sn (min ((t : Int) + S) ((sn : Int) - 1)) (S * 2) := by
 subst ht'
 unfold Ph at h
 refine ⟨by omega, by omega, by omega, by omega, fun hlt => ⟨(min ((t : Int) + S) ((sn : Int) - 1)).toNat, by omega, by omega, by omega, .inr (.inl ⟨rfl, by omega, ?_, by omega⟩)⟩⟩
 by_cases hc : (t : Int) + S ≤ (sn : Int) - 1
 ·left
  omega
 ·right
  omega
theorem Nr.down {sn z t : Nat} {S : Int} (h : Ph sn 0 z t S) (h1 : 1 ≤ S) (hz : z ≤ sn) (ht : t < z) : Nr sn 0 t (max ((t : Int) - S) 0) (S * 2) := by
 unfold Ph at h
 refine ⟨by omega, by omega, by omega, by omega, fun hlt => ⟨(max ((t : Int) - S) 0).toNat, by omega, by omega, by omega, .inr (.inr ⟨rfl, by omega, ?_, by omega⟩)⟩⟩
 by_cases hc : 0 ≤ (t : Int) - S
 ·left
  omega
 ·right
  omega
theorem nearQ_any (w : World) (a : Nat) (k : Int) (n : Nat) (po : Option Addr) (pn pc : Nat) (bo : Option Addr) (bn bc : Nat) (so : Option Addr) (sn sc : Nat) (ws : Int) (P body : List Int) (st : List Nat) (cs : List Cl) (h : PgQ w a k n po pn pc bo bn bc so sn sc ws P body st) (hl : LayQ k P cs body st) (hr : Rs cs) (hbn : bn ≤ 1099511627776) (hsn : sn ≤ 65536) (qo : Option Addr) (qn qc : Nat) (q : List Int) (hq : Sl w qo qn qc q) (hint : Int) :
  Calls Tryz.prog 60 #[.pointer (some ⟨a, 0, none⟩), .slice qo qn qc, .int .i64 hint] w fun e w' => zbk cs q w e w' := by
 have hcs : cs.length = sn := by rw [← hl.len, h.starts.hlen]
 have HLN : Hid (∀ u, Below w.heap.size w u → Calls Tryz.prog 26 #[.pointer (some ⟨a, 0, none⟩)] u fun e w' => e = .returned (.int .i64 (sn : Int)) ∧ w' = u) := zaa fun u hu => zba u a k n po pn pc bo bn bc so sn sc ws P body st (h.on hu)
 have HAG := zaa (zdp w a k n po pn pc _ _ ws P h.row h.pre qo qn qc q hq)
 have HAM : Hid (∀ u b1 b2 b3 b4 ro rn rc b (l z : Nat), l ≤ z → z ≤ sn → Side cs q l z → Ag u a b1 b2 b3 b4 qo qn qc ro rn rc b P q → Below w.heap.size w u → Calls Tryz.prog 65 #[.pointer (some ⟨a, 0, none⟩), .int .i64 (l : Int), .int .i64 (z : Int), .func (.func 110) #[] #[.pointer (some ⟨b1, 0, none⟩), .pointer (some ⟨b2, 0, none⟩), .pointer (some ⟨b3, 0, none⟩), .pointer (some ⟨b4, 0, none⟩)]] u fun e w' => zbk cs q u e w') := zaa fun u b1 b2 b3 b4 ro rn rc b l z hlz hz hs hA hu =>
  among_any u a k n po pn pc bo bn bc so sn sc ws P body st cs (h.on hu) hl hr hbn hsn l z hlz hz b1 b2 b3 b4 qo qn qc ro rn rc b q hA hs.1 hs.2
 have HF : Hid (∀ u b1 b2 b3 b4 ro rn rc b (t : Nat) d, cs[t]? = some d → Ag u a b1 b2 b3 b4 qo qn qc ro rn rc b P q → Below w.heap.size w u → Calls Tryz.prog 110 #[.int .i64 (t : Int), .pointer (some ⟨b1, 0, none⟩), .pointer (some ⟨b2, 0, none⟩), .pointer (some ⟨b3, 0, none⟩), .pointer (some ⟨b4, 0, none⟩)] u fun e w' => e = .returned (.int .i64 (ordL d.key q)) ∧ Hid (Below u.heap.size u w')) := zaa fun u b1 b2 b3 b4 ro rn rc b t d hd hA hu =>
  zdo u a k n po pn pc bo bn bc so sn sc ws P body st cs (h.on hu) hl t d hd hbn b1 b2 b3 b4 qo qn qc ro rn rc b q hA
 have HR := zaa hr
 have HCS := zaa hcs
 have hsI : (sn : Int) ≤ 65536 := by omega
 clear h hl hr hq hcs
 go_enter Tryz.func60, Tryz.ntmps60
 go_wp2_with fail
 go_step3
 go_upto_region 3 with (first
  | (go_at_call 66; refine HAG.out.mono ?_; rintro e w1 ⟨b1, b2, b3, b4, ro, rn, rc, b, rfl, HA1, HB1⟩)
  | (go_at_call 26; refine zae (HLN.out _ HB1.out) ?_))
 go_wp2_with fail
 go_step3
 go_wp2_with fail
 go_loopw [9, 10, 11, 12] (fun lo hi av sv wr => ∃ (l z : Nat) (A S : Int), lo = .int .i64 (l : Int) ∧ hi = .int .i64 (z : Int) ∧ av = .int .i64 A ∧ sv = .int .i64 S ∧ Hid (Nr sn l z A S) ∧ Hid (Side cs q l z) ∧ Hid (Below w1.heap.size w1 wr)) (fun lo hi _ _ _ => (intOf hi - intOf lo).toNat)
 case atStart => exact ⟨0, sn, _, 1, rfl, rfl, rfl, rfl, zaa ⟨by omega, by omega, by omega, by omega, fun h => ⟨(min (max hint 0) ((sn : Int) - 1)).toNat, by omega, by omega, by omega, .inl ⟨rfl, rfl, rfl⟩⟩⟩, zaa ⟨fun i c hi => by omega, fun i c hi hc => by have := (zH.1 hc).1; have := HCS.out; omega⟩, zaa Br⟩
 case round =>
  obtain ⟨l, z, A, S, rfl, rfl, rfl, rfl, HN, HS, HBR⟩ := hrel
  obtain ⟨n1, n2, n3, n4, n5⟩ := HN.out
  have hzI9 : (z : Int) ≤ 65536 := by omega
  have SI : S ≤ 262148 := by omega
  by_cases hlt : l < z
  ·have hltI : (l : Int) < (z : Int) := by omega
   obtain ⟨t, rfl, t1, t2, hph⟩ := n5 hlt
   have tI : (t : Int) ≤ 65536 := by omega
   obtain ⟨d, hd⟩ : ∃ d, cs[t]? = some d := ⟨_, zI (by have := HCS.out; omega)⟩
   have HO := zaa (HF.out wr b1 b2 b3 b4 ro rn rc b t d hd (HA1.out.go HBR.out) (zab HB1.out Lr HBR.out))
   have HD := zaa hd
   have HPH := zaa hph
   have HT := zaa (And.intro t1 t2)
   have HN1 := zaa (And.intro n1 (And.intro n2 n3))
   rcases zbt d.key q with ho | ho | ho
   ·rw [ho] at HO
    have HO0 : Hid (ordL d.key q = 0) := zaa ho
    clear n1 n2 n4 n5 hph t1 t2 hd ho hlt
    go_wp2_with (go_at_call 110; refine HO.out.mono ?_; rintro e w2 ⟨rfl, HB2⟩; have HX2 : Hid (Below w1.heap.size w1 w2) := zaa (zab HBR.out Lr HB2.out))
    go_ret2
    exact ⟨t, true, rfl, zaa (zab HB1.out Lr HX2.out), zaa (Fnd.here HR.out HD.out HO0.out)⟩
   ·rw [ho] at HO
    obtain ⟨t', ht'⟩ : ∃ t', t' = t + 1 := ⟨_, rfl⟩
    have HT' := zaa ht'
    have HS2 := zaa (HS.out.up HR.out hd ho ht')
    have tI' : (t : Int) + 1 = (t' : Int) := by omega
    have tJ' : (t' : Int) ≤ 65537 := by omega
    by_cases hz : z < sn
    ·have hzI : (z : Int) < (sn : Int) := by omega
     clear n1 n2 n4 n5 hph t1 t2 hd ho hlt ht'
     go_wp2_with (first | (go_at_call 110; refine HO.out.mono ?_; rintro e w2 ⟨rfl, HB2⟩; have HX2 : Hid (Below w1.heap.size w1 w2) := zaa (zab HBR.out Lr HB2.out)) | (go_at_call 26; refine zae (HLN.out _ (zab HB1.out Lr HX2.out)) ?_) | (go_at_call 65; refine (HAM.out _ _ _ _ _ _ _ _ _ t' z (by have := HT.out; have := HT'.out; omega) (by omega) HS2.out (HA1.out.go HX2.out) (zab HB1.out Lr HX2.out)).mono ?_; rintro e w9 ⟨r, is, rfl, HB9, HQ9⟩))
     go_ret2
     exact ⟨r, is, rfl, zaa (zab (zab HB1.out Lr HX2.out) Lr HB9.out), HQ9⟩
    ·obtain rfl : z = sn := by omega
     have hzI : ¬ (z : Int) < (z : Int) := by omega
     have HST : Hid (1 ≤ S ∧ S ≤ 4 * (z : Int) + 4 ∧ l < z) := zaa ⟨n3, n4, hlt⟩
     clear n1 n2 n4 n5 hph t1 t2 hd ho ht' hlt
     go_wp2_with (first | (go_at_call 110; refine HO.out.mono ?_; rintro e w2 ⟨rfl, HB2⟩; have HX2 : Hid (Below w1.heap.size w1 w2) := zaa (zab HBR.out Lr HB2.out)) | (go_at_call 26; refine zae (HLN.out _ (zab HB1.out Lr HX2.out)) ?_))
     go_roundw
     case rel => exact ⟨t', z, _, _, rfl, rfl, rfl, rfl, zaa (Nr.up HPH.out HST.out.1 HT.out.2 HT'.out), HS2, HX2⟩
     case measure => simp [intOf]; have := HT.out; have := HT'.out; omega
   ·rw [ho] at HO
    have HS2 := zaa (HS.out.down HR.out hd ho)
    by_cases hz : 0 < l
    ·have hzI : 0 < (l : Int) := by omega
     clear n1 n2 n4 n5 hph t1 t2 hd ho hlt
     go_wp2_with (first | (go_at_call 110; refine HO.out.mono ?_; rintro e w2 ⟨rfl, HB2⟩; have HX2 : Hid (Below w1.heap.size w1 w2) := zaa (zab HBR.out Lr HB2.out)) | (go_at_call 26; refine zae (HLN.out _ (zab HB1.out Lr HX2.out)) ?_) | (go_at_call 65; refine (HAM.out _ _ _ _ _ _ _ _ _ l t HT.out.1 (by have := HT.out; have := HN1.out; omega) HS2.out (HA1.out.go HX2.out) (zab HB1.out Lr HX2.out)).mono ?_; rintro e w9 ⟨r, is, rfl, HB9, HQ9⟩))
     go_ret2
     exact ⟨r, is, rfl, zaa (zab (zab HB1.out Lr HX2.out) Lr HB9.out), HQ9⟩
    ·obtain rfl : l = 0 := by omega
     have HST : Hid (1 ≤ S ∧ z ≤ sn) := zaa ⟨n3, n2⟩
     clear n1 n2 n4 n5 hph t1 t2 hd ho hlt
     go_wp2_with (first | (go_at_call 110; refine HO.out.mono ?_; rintro e w2 ⟨rfl, HB2⟩; have HX2 : Hid (Below w1.heap.size w1 w2) := zaa (zab HBR.out Lr HB2.out)) | (go_at_call 26; refine zae (HLN.out _ (zab HB1.out Lr HX2.out)) ?_))
     go_roundw
     case rel => exact ⟨0, t, _, _, rfl, rfl, rfl, rfl, zaa (Nr.down HPH.out HST.out.1 HST.out.2 HT.out.2), HS2, HX2⟩
     case measure => simp [intOf]; have := HT.out; omega
  ·have hltI : ¬ (l : Int) < (z : Int) := by omega
   have HN1 := zaa (And.intro n1 n2)
   clear n1 n2 n3 n4 n5 hlt
   go_wp2_with (go_at_call 65; refine (HAM.out _ _ _ _ _ _ _ _ _ l z HN1.out.1 HN1.out.2 HS.out (HA1.out.go HBR.out) (zab HB1.out Lr HBR.out)).mono ?_; rintro e w9 ⟨r, is, rfl, HB9, HQ9⟩)
   go_ret2
   exact ⟨r, is, rfl, zaa (zab (zab HB1.out Lr HBR.out) Lr HB9.out), HQ9⟩
theorem zdi {P : Program} {fn : Func} {p u : Tmp} {ty : TypeId} (h : fn.results = #[.cell p ty, .tmp u]) (tmps : Array Value) (w : World) (g : Nat) (t : TypeId) (cs : Array Value) (fr : Nat × Nat) (d : TypeDesc) (v : Value)
  (hp : tmps.getD p undef = .pointer (some ⟨g, 0, none⟩)) (hv : tmps.getD u undef = v) (hg : w.heap[g]? = some (.cells cs t fr))
  (hu : P.underlying ty = some d) (hd : (match d with | .struct _ | .array _ _ => true | _ => false) = true) (hi : (P.info? ty).map (·.size) = some cs.size) :
  (results fn tmps).run P w = .ok (.tuple #[.agg cs, v]) w := by
 subst hv
 rw [results_cell_tmp h, hp]
 simp [asAddr, run_loadVar_row w g t ty cs fr d hg hu hd hi, Result.andThen]
def cellQ (cs : List Cl) (x : Int) : Cl := if 0 ≤ x ∧ x < (cs.length : Int) then (cs[x.toNat]?).getD ⟨[], 0, [], 0, 0⟩ else ⟨[], 0, [], 0, 0⟩
def CelQ (c : Cl) (E : Int) (w : World) (e : Ending) (w' : World) : Prop :=
 ∃ ao a2 bo b2, e = .returned (.tuple #[.agg #[.slice ao c.key.length a2, .int .i64 c.kd, .slice bo c.val.length b2, .int .i64 c.pg, .int .i64 c.ct], .int .i64 E]) ∧ Hid (OwnB w' w.heap.size (.slice ao c.key.length a2) c.key ∧ OwnB w' w.heap.size (.slice bo c.val.length b2) c.val ∧ ∀ z, (Value.slice ao c.key.length a2).ownBlock = some z → ¬ (Value.slice bo c.val.length b2).ownBlock = some z) ∧ Hid (Below w.heap.size w w')
theorem cellQ_any (w : World) (a : Nat) (k : Int) (n : Nat) (po : Option Addr) (pn pc : Nat) (bo : Option Addr) (bn bc : Nat) (so : Option Addr) (sn sc : Nat) (ws : Int) (P body : List Int) (st : List Nat) (cs : List Cl) (h : PgQ w a k n po pn pc bo bn bc so sn sc ws P body st) (hl : LayQ k P cs body st) (x : Int) :
  Calls Tryz.prog 58 #[.pointer (some ⟨a, 0, none⟩), .int .i64 x] w (CelQ (cellQ cs x) (if 0 ≤ x ∧ x < (cs.length : Int) then 0 else 64) w) := by
 have hcs : cs.length = sn := by rw [← hl.len, h.starts.hlen]
 obtain ⟨s, hs⟩ : ∃ s, w.heap.size = s := ⟨_, rfl⟩
 obtain ⟨y, hy⟩ : ∃ y, w.alloc (.cells #[.slice none 0 0, .int .i64 0, .slice none 0 0, .int .i64 0, .int .i64 0] 39) = y := ⟨_, rfl⟩
 have hby : Below w.heap.size w y := by rw [← hy]; exact zac Br Lr _
 have HRES : Hid (C5 y s (.slice none 0 0) (.int .i64 0) (.slice none 0 0) (.int .i64 0) (.int .i64 0)) := by rw [← hy, ← hs]; exact zaa (C5.box _ _ _ _ _ _)
 have HBY := zaa hby
 have hpy := h.on hby
 have hys : s + 1 ≤ y.heap.size := by rw [← hy, ← hs]; simp
 unfold cellQ
 rw [hcs]
 by_cases hx : 0 ≤ x ∧ x < (sn : Int)
 ·rw [if_pos hx, if_pos hx]
  obtain ⟨i, rfl⟩ : ∃ i : Nat, x = (i : Int) := ⟨x.toNat, by omega⟩
  rw [Int.toNat_natCast]
  obtain ⟨c, hci⟩ : ∃ c, cs[i]? = some c := ⟨_, zI (by omega)⟩
  rw [hci, Option.getD_some]
  have HH := zaa (hasQ y a k n po pn pc bo bn bc so sn sc ws P body st hpy i (by omega))
  have HVW := zaa (pentry_any y a k n po pn pc bo bn bc so sn sc ws P body st cs hpy hl i c hci y.heap.size hpy.pre.lo hpy.body.lo)
  have HCF := zaa (hl.fit c (List.mem_of_getElem? hci))
  obtain ⟨key, kd, val, pg, ct⟩ := c
  have HYS := zaa hys
  have HSW := zaa hs
  have hiI : (i : Int) < (sn : Int) := hx.2
  clear h hl hpy hci hby hys hx hcs
  go_enter Tryz.func58, Tryz.ntmps58
  go_wp2_with (first
   | (go_at_call 42; refine zae HH.out ?_)
   | (go_at_call 61; refine HVW.out.mono ?_; rintro e u1 ⟨ho, hn, hc, ko, kn, kc, vo, vn, vc, hd, kk, rfl, HQ, HU1⟩; refine Hid.out ?_))
  apply zaa
  obtain ⟨KN, hKN⟩ : ∃ KN, hn + kn = KN := ⟨_, rfl⟩
  have HC : Hid (Calls Tryz.prog 62 #[.agg #[.slice ho hn hc, .slice ko kn kc, .int .i64 kd, .slice vo vn vc, .int .i64 pg, .int .i64 ct]] u1 fun e w' => CopQ key val KN kd vn pg ct u1 e w') := by
   obtain ⟨q1, q2, q3, q4, _⟩ := HQ.out
   have hkf := HCF.out.key
   have hll := congrArg List.length q4
   simp only [zG] at hll hkf
   have l1 := q1.hlen
   have l2 := q2.hlen
   have := ecopied_any ho hn hc ko kn kc kd vo vn vc pg ct hd kk val KN u1 q1 q2 q3 hKN (by omega)
   rw [q4] at this
   exact zaa this
  have HLN : Hid (KN = key.length ∧ vn = val.length ∧ val.length ≤ 65536) := by
   obtain ⟨q1, q2, q3, q4, _⟩ := HQ.out
   have hll := congrArg List.length q4
   have hvf := HCF.out.val
   simp only [zG] at hll hvf
   have l1 := q1.hlen
   have l2 := q2.hlen
   have l3 := q3.hlen
   exact zaa ⟨by omega, l3.symm, by omega⟩
  clear HH HVW hKN
  go_wp2_with (go_at_call 62; refine HC.out.mono ?_; rintro e u2 ⟨a1, c1, g2, rfl, HG, HU2⟩; refine Hid.out ?_)
  apply zaa
  have hres1 : C5 u2 s (.slice none 0 0) (.int .i64 0) (.slice none 0 0) (.int .i64 0) (.int .i64 0) := zaf (zaf HRES.out HU1.out) HU2.out
  have HR2 := zaa hres1
  obtain ⟨b0, b1, b2', b3, b4⟩ := hres1.cells
  obtain ⟨h0, h1, h2, h3, h4⟩ := hres1.free
  clear hres1 HC
  go_wp2
  refine bodyPost_ret (zdi rfl _ _ s 39 #[.slice a1 KN c1, .int .i64 kd, .slice (some ⟨g2, 0, none⟩) vn vn, .int .i64 pg, .int .i64 ct] (0, 0) _ (.int .i64 0) (by rfl) (by rfl) (HR2.out.put _ _ _ _ _) Tryz.underlying39 rfl zbu) rfl ?_
  have hf := zce u2 s (.slice a1 KN c1) (.int .i64 kd) (.slice (some ⟨g2, 0, none⟩) vn vn) (.int .i64 pg) (.int .i64 ct)
  have hys := HYS.out
  have hsw := HSW.out
  obtain ⟨hkl, hvl, hvr⟩ := HLN.out
  have hu1 := HU1.out.size
  obtain ⟨hg1, hg2, hg3, hg4⟩ := HG.out
  have hbu := zab (zab HBY.out Lr HU1.out) Lr HU2.out
  subst hkl
  subst hvl
  refine ⟨a1, c1, some ⟨g2, 0, none⟩, val.length, rfl, zaa ⟨?_, ?_, ?_⟩, zaa (hbu.trans (hf.below hbu.size (by intro i hi e; omega)))⟩
  ·exact (hg1.low (by omega)).cf hf (hg1.apart5 HR2.out)
  ·exact zdj (l := val) (hg2.cf hf (hg2.apart5 HR2.out)) (by omega) (zN hvr (by unfold maxLen; decide))
  ·intro z h1 h2
   have e2 : g2 = z := by simpa [Value.ownBlock] using h2
   rw [← e2] at h1
   exact hg4 h1
 ·rw [if_neg hx, if_neg hx]
  have HH := zaa (hasQ_no y a k n po pn pc bo bn bc so sn sc ws P body st hpy x hx)
  obtain ⟨b0, b1, b2', b3, b4⟩ := HRES.out.cells
  obtain ⟨h0, h1, h2, h3, h4⟩ := HRES.out.free
  have hf := zce y s (.slice none 0 0) (.int .i64 0) (.slice none 0 0) (.int .i64 0) (.int .i64 0)
  have HF := zaa hf
  have HS := zaa hs
  clear h hl hpy hby hys hf hx hcs
  go_enter Tryz.func58, Tryz.ntmps58
  go_wp2_with (go_at_call 42; refine zae HH.out ?_)
  refine bodyPost_ret (zdi rfl _ _ s 39 #[.slice none 0 0, .int .i64 0, .slice none 0 0, .int .i64 0, .int .i64 0] (0, 0) _ (.int .i64 64) (by rfl) (by rfl) (HRES.out.put _ _ _ _ _) Tryz.underlying39 rfl zbu) rfl ?_
  exact ⟨none, 0, none, 0, rfl, zaa ⟨OwnB.nil _ _, OwnB.nil _ _, fun z h1 => (by simp [Value.ownBlock] at h1)⟩, zaa (HBY.out.trans (HF.out.below HBY.out.size (by intro i hi e; have := HS.out; omega)))⟩
theorem usedW_any (w : World) (a : Nat) (k n : Int) (po : Option Addr) (pn pc : Nat) (bo : Option Addr) (bn bc : Nat) (so : Option Addr) (sn sc : Nat) (ws : Nat) (h : QR w a k n (.slice po pn pc) (.slice bo bn bc) (.slice so sn sc) (ws : Int)) (h1 : pn ≤ 1099511627776) (h2 : bn ≤ 1099511627776) (h3 : sn ≤ 1099511627776) (Z U : Nat) (hZ : 10 + pn + 2 * sn + bn = Z) (hU : Z = U + ws) :
  Calls Tryz.prog 17 #[.pointer (some ⟨a, 0, none⟩)] w fun e w' => e = .returned (.int .i64 (U : Int)) ∧ Hid (Below w.heap.size w w') := by
 obtain ⟨c0, c1, c2, c3, c4, c5⟩ := h.cells
 have HF : Hid (∀ u, Below w.heap.size w u → Calls Tryz.prog 53 #[.pointer (some ⟨a, 0, none⟩)] u fun e w' => e = .returned (.int .i64 (Z : Int)) ∧ w'.cell? ⟨a, 5, none⟩ = some (.int .i64 (ws : Int)) ∧ Hid (Below w.heap.size w w')) := by
  refine zaa fun u hu => (zda u a k n po pn pc bo bn bc so sn sc ws (zaf h hu) h1 h2 h3).mono ?_
  rintro e w' ⟨rfl, q, rfl⟩
  have hb := zad hu q
  exact ⟨by rw [hZ], (show QR _ a k n (.slice po pn pc) (.slice bo bn bc) (.slice so sn sc) (ws : Int) from zaf h hb).cells.2.2.2.2.2, zaa hb⟩
 have hwZ0 : IntKind.i64.wrap ((Z : Int) - (ws : Int)) = (U : Int) := by rw [IntKind.wrap_i64]; omega
 have hZU : (Z : Int) - (ws : Int) = (U : Int) := by omega
 have bU : (U : Int) ≤ 8796093022208 := by omega
 have hwU : IntKind.i64.wrap (U : Int) = (U : Int) := by rw [IntKind.wrap_i64]; omega
 clear h hZ hU
 go_enter Tryz.func17, Tryz.ntmps17
 go_wp2_with fail
 go_region_with (first | (go_at_call 53; refine (HF.out _ (by first | exact Br | exact Br.drew | exact zad Br _)).mono ?_; rintro e w1 ⟨rfl, x5, HB1⟩))
 all_goals
  go_wp2
  go_ret
  exact ⟨rfl, zaa (by first | exact HB1.out | exact HB1.out.drew | exact zad HB1.out _)⟩
theorem kindW_any (w : World) (a : Nat) (k n : Int) (vp vb vs : Value) (ws : Int) (h : QR w a k n vp vb vs ws) :
  Calls Tryz.prog 21 #[.pointer (some ⟨a, 0, none⟩)] w fun e w' => e = .returned (.int .i64 k) ∧ w' = w := by
 obtain ⟨c0, c1, c2, c3, c4, c5⟩ := h.cells
 clear h
 go_enter Tryz.func21, Tryz.ntmps21
 go_wp2_with fail
 go_ret
 exact ⟨rfl, rfl⟩
end Go.Proofs.YtfgffajgfgifhaaGreatDoor
