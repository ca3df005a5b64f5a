import Derived.Test.YtlhkinlgolcpaaaGreatDoorJ31
namespace Go.Proofs.YtlhkinlgolcpaaaGreatDoor
set_option maxRecDepth 100000
open Go.RowKit
theorem cmN_shn_acc (a : List Int) : ∀ (r : List Cl) (acc : Nat), acc ≤ a.length → (r.map (·.key)).foldl (fun n x => min n (lcp x a)) acc = min acc (shn a r)
 | [], acc, h => by simp only [List.map_nil, List.foldl_nil, shn]; omega
 | d :: r, acc, h => by
  simp only [List.map_cons, List.foldl_cons, shn]
  rw [cmN_shn_acc a r _ (by omega), lcp_comm d.key a]
  omega
theorem cmN_shn (c : Cl) (r : List Cl) : cmN (c.key :: r.map (·.key)) = shn c.key r := by
 rw [cmN_min, cmN_shn_acc c.key r _ (Nat.le_refl _)]
 have := shn_le c.key r
 omega
structure KeyV (w : World) (xs : List Value) (ds : List Cl) : Prop where
 len : xs.length = ds.length
 at_ : ∀ (t : Nat) (d : Cl), ds[t]? = some d → ∃ (ka : Option Addr) (kc : Nat), xs[t]? = some (Value.slice ka d.key.length kc) ∧ Sl w ka d.key.length kc d.key
theorem KeyV.snoc {w : World} {xs : List Value} {ds : List Cl} {d : Cl} {ka : Option Addr} {kc : Nat} (h : KeyV w xs ds) (hs : Sl w ka d.key.length kc d.key) : KeyV w (xs ++ [.slice ka d.key.length kc]) (ds ++ [d]) := by
 refine ⟨by simp [h.len], fun t e ht => ?_⟩
 by_cases hlt : t < ds.length
 ·rw [List.getElem?_append_left hlt] at ht
  obtain ⟨ka', kc', h1, h2⟩ := h.at_ t e ht
  exact ⟨ka', kc', by rw [List.getElem?_append_left (by rw [h.len]; exact hlt)]; exact h1, h2⟩
 ·have hl := (List.getElem?_eq_some_iff.1 ht).1
  simp only [List.length_append, List.length_cons, List.length_nil] at hl
  obtain rfl : t = ds.length := by omega
  rw [List.getElem?_append_right (Nat.le_refl _), Nat.sub_self] at ht
  simp at ht
  subst ht
  exact ⟨ka, kc, by rw [List.getElem?_append_right (by rw [h.len]; exact Nat.le_refl _), h.len, Nat.sub_self]; rfl, hs⟩
theorem ktl_take {k : Int} {cs : List Cl} {j : Nat} {c : Cl} (h : cs[j]? = some c) (hc : ¬ (k = 3 ∧ (j : Int) = 0)) : ktl k (cs.take (j + 1)) = ktl k (cs.take j) ++ [c] := by
 have e : cs.take (j + 1) = cs.take j ++ [c] := by rw [List.take_add_one, h]; rfl
 unfold ktl
 split
 ·next h3 =>
  have hj : 0 < j := by omega
  have hl := (List.getElem?_eq_some_iff.1 h).1
  rw [e, List.tail_append_of_ne_nil]
  intro e2
  have := congrArg List.length e2
  rw [List.length_take, List.length_nil] at this
  omega
 ·exact e
theorem ktl_zero {k : Int} {cs : List Cl} {j : Nat} (hc : k = 3 ∧ (j : Int) = 0) : ktl k (cs.take (j + 1)) = ktl k (cs.take j) := by
 obtain ⟨rfl, hj⟩ := hc
 obtain rfl : j = 0 := by omega
 unfold ktl
 rw [if_pos rfl, if_pos rfl]
 cases cs <;> simp
theorem keys_sls {w w' : World} {B : Nat} {v : Value} {xs : List Value} {ds : List Cl} (h : OwnV w' B v xs) (k : KeyV w xs ds) (hb : Below w.heap.size w w') (hn : ds.length ≤ 1000000) :
  ∃ a c, v = .slice a ds.length c ∧ SlS w' a ds.length c (ds.map (·.key)) := by
 have hl := k.len
 rcases h.2 with ⟨rfl, h0⟩ | ⟨g, cap, cur, rfl, hg, hh, hnc, hm, hs, ht'⟩
 ·have : ds.length = 0 := by omega
  rw [this]
  exact ⟨none, 0, rfl, ⟨by simpa using this, Nat.le_refl _, by omega, fun _ => rfl, .inl rfl⟩⟩
 ·have h2 : w'.ownsRow B 25 1 (.slice (some ⟨g, 0, none⟩) ds.length cap) ds.length xs := by
   have h3 := h
   unfold OwnV at h3
   rw [hl] at h3
   exact h3
  rw [hl] at hnc ⊢
  clear h
  have h := h2
  refine ⟨some ⟨g, 0, none⟩, cap, rfl, ⟨by simp, hnc, by omega, (by intro h; cases h), .inr ⟨g, 0, rfl, (World.ownsRow.lt h g rfl).2, fun i hi => ?_⟩⟩⟩
  have hc := World.ownsRow.cellAt h i (by omega)
  obtain ⟨ka, kc, e1, e2⟩ := k.at_ i ds[i] (List.getElem?_eq_getElem hi)
  rw [e1] at hc
  refine ⟨_, _, _, by rw [Nat.zero_add]; exact hc, ?_⟩
  have e3 : (ds.map (·.key)).getD i [] = ds[i].key := by simp [List.getD, hi]
  rw [e3]
  exact e2.on (Nat.le_refl _) hb
set_option maxHeartbeats 2000000 in
theorem rshared_any (k : Int) (ao : Option Addr) (n cap : Nat) (cs : List Cl) (w : World) (hs : SlC w ao n cap cs) (hn : n ≤ 900000) :
  Calls Tryz.prog 77 #[.int .i64 k, .slice ao n cap] w fun e w' => ∃ v, e = .returned v ∧ Hid (OwnB w' w.heap.size v (shP k cs)) ∧ Hid (Below w.heap.size w w') := by
 have HS := hidden hs
 have HLEN := hidden hs.hlen
 obtain ⟨P, hP⟩ : ∃ P, shP k cs = P := ⟨_, rfl⟩
 rw [hP]
 have HP : Hid (shr (ktl k cs) = P) := hidden hP
 clear hs hP
 go_enter Tryz.func77, Tryz.ntmps77
 go_wp2_with fail
 go_loopw [5, 6] (fun v i wr => ∃ (j : Nat) (xs : List Value), j ≤ n ∧ i = .int .i64 j ∧ Hid (OwnV wr w.heap.size v xs) ∧ Hid (KeyV w xs (ktl k (cs.take j))) ∧ Hid (Below w.heap.size w wr)) (fun _ i _ => n - (intOf i).toNat)
 case atStart => exact ⟨0, [], by omega, rfl, hidden (OwnV.nil _ _), hidden ⟨by unfold ktl; split <;> rfl, fun t d h => by unfold ktl at h; split at h <;> simp at h⟩, hidden (Below.refl _ _)⟩
 case round =>
  obtain ⟨j, xs, hj, rfl, HO, HK, HB⟩ := hrel
  have bj : (j : Int) ≤ 900000 := by omega
  by_cases hlt : j < n
  ·have hltI : (j : Int) < (n : Int) := by omega
   obtain ⟨b, off, c, ka, kc, va, vc, rfl, hb, hci, c0, c1, c2, c3, c4, hk, hv⟩ := HS.out.item j hlt
   by_cases hc : k = 3 ∧ (j : Int) = 0
   ·have HK2 : Hid (KeyV w xs (ktl k (cs.take (j + 1)))) := hidden (by rw [ktl_zero hc]; exact HK.out)
    obtain ⟨rfl, hj0⟩ := hc
    obtain rfl : j = 0 := by omega
    clear hk hv c0 c1 c2 c3 c4 HK hci
    go_wp2
    go_roundw
    case rel => exact ⟨1, xs, by omega, by go_num, HO, HK2, HB⟩
    case measure => simp [intOf]; omega
   ·have hxl : xs.length ≤ 1000000 := by
     rw [HK.out.len]
     unfold ktl
     split <;> simp <;> omega
    have HXL := hidden hxl
    have HK2 : Hid (KeyV w (xs ++ [.slice ka c.key.length kc]) (ktl k (cs.take (j + 1)))) := hidden (by rw [ktl_take hci hc]; exact HK.out.snoc hk)
    have d0 := (HB.out.cell (p := ⟨b, off + j * 5, none⟩) hb).trans c0
    obtain ⟨K, hK⟩ : ∃ K, c.key.length = K := ⟨_, rfl⟩
    rw [hK] at d0 HK2
    have hsz := HB.out.size
    clear hk hv c0 c1 c2 c3 c4 HK hci hK hxl
    have HC1 : Hid ((wr.alloc (.cells #[.slice ka K kc] 25)).cell? ⟨wr.heap.size, 0, none⟩ = some (.slice ka K kc)) := hidden (by simp)
    by_cases h3 : k = 3
    ·subst h3
     have hj0 : ¬ (j : Int) = 0 := fun e => hc ⟨rfl, e⟩
     have hj1 : (0 : Int) < (j : Int) := by omega
     clear hc
     go_wp2_with (at_builtin; refine app_val _ rfl _ _ rfl w.heap.size xs _ rfl (HO.out.on (Nat.le_refl _) (bl_al (Below.refl _ _) (Nat.le_refl _) _)) wr.heap.size K kc rfl ka HC1.out HXL.out (by simp; omega) ?_; refine Hid.out ?_)
     apply hidden
     intro v2 w2 ho2 g2
     have HO2 := hidden ho2
     have HB2 : Hid (Below w.heap.size w w2) := hidden ((bl_al HB.out (Nat.le_refl _) _).trans (own_below (HO.out.on (Nat.le_refl _) (bl_al (Below.refl _ _) (Nat.le_refl _) _)) (by simp; omega) g2))
     clear ho2 g2 HO HB d0 HC1
     go_wp2
     go_roundw
     case rel => exact ⟨j + 1, _, by omega, by go_num, HO2, HK2, HB2⟩
     case measure => simp [intOf]; omega
    ·have hkb : (k != 3) = true := by simpa using h3
     clear hc h3
     go_wp2_with (at_builtin; refine app_val _ rfl _ _ rfl w.heap.size xs _ rfl (HO.out.on (Nat.le_refl _) (bl_al (Below.refl _ _) (Nat.le_refl _) _)) wr.heap.size K kc rfl ka HC1.out HXL.out (by simp; omega) ?_; refine Hid.out ?_)
     apply hidden
     intro v2 w2 ho2 g2
     have HO2 := hidden ho2
     have HB2 : Hid (Below w.heap.size w w2) := hidden ((bl_al HB.out (Nat.le_refl _) _).trans (own_below (HO.out.on (Nat.le_refl _) (bl_al (Below.refl _ _) (Nat.le_refl _) _)) (by simp; omega) g2))
     clear ho2 g2 HO HB d0 HC1
     go_wp2
     go_roundw
     case rel => exact ⟨j + 1, _, by omega, by go_num, HO2, HK2, HB2⟩
     case measure => simp [intOf]; omega
  ·have e : cs.take j = cs := List.take_of_length_le (by rw [HLEN.out]; omega)
   rw [e] at HK
   have hdl : (ktl k cs).length ≤ 900000 := by
    have := HLEN.out
    unfold ktl
    split <;> simp <;> omega
   obtain ⟨a, c, rfl, hsls⟩ := keys_sls HO.out HK.out HB.out (by omega)
   have HSL := hidden hsls
   cases hk : ktl k cs with
   | nil =>
    rw [hk] at HSL HP
    obtain rfl : [] = P := HP.out
    have HC := hidden (refCommon_nil a c wr)
    simp only [List.length_nil]
    clear hsls HO HK hk hdl e HSL
    go_wp2_with (first | (go_at_call 108; refine quiet_call' HC.out ?_; intro q; refine Hid.out ?_))
    apply hidden
    have HB2 := hidden (bl_dr HB.out q)
    clear HC HB
    go_wp2
    go_ret
    exact ⟨_, rfl, hidden (OwnB.nil _ _), HB2⟩
   | cons d r =>
    rw [hk] at HSL HK
    have hsl2 := HSL.out
    simp only [List.map_cons, List.length_cons] at hsl2
    have HC := hidden (refCommon_any a (r.length + 1) c d.key (r.map (·.key)) wr hsl2)
    rw [cmN_shn] at HC
    have hshl := shn_le d.key r
    have HR : Hid (P = d.key.take (shn d.key r)) := hidden (by rw [← HP.out, hk]; rfl)
    obtain ⟨m, hm⟩ : ∃ m, shn d.key r = m := ⟨_, rfl⟩
    rw [hm] at HC hshl HR
    rcases hsl2.hat with h | ⟨b, off, rfl, hbb, hcs⟩
    ·omega
    obtain ⟨a0, m0, c0, hc0, hs0⟩ := hcs 0 (by omega)
    simp only [Nat.add_zero, List.getD_cons_zero] at hc0 hs0
    have hm0 := hs0.hlen
    have hcp := hs0.hcap
    have hrm := hs0.hroom
    have HS0 := hidden hs0
    obtain ⟨N, hN⟩ : ∃ N, r.length + 1 = N := ⟨_, rfl⟩
    have hN0 : 0 < N := by omega
    have hN0I : (0 : Int) < (N : Int) := by omega
    simp only [List.length_cons]
    rw [hN] at HC ⊢
    have hNb : (N : Int) ≤ 900000 := by rw [hk] at hdl; simp at hdl; omega
    clear hsls HO HK hk hdl e HSL hsl2 hcs hs0 hN hm HP
    go_wp2_with (first | (go_at_call 108; refine quiet_call' HC.out ?_; intro q; refine Hid.out ?_))
    apply hidden
    have HB2 := hidden (bl_dr HB.out q)
    have hc1 : (wr.drewN q).cell? ⟨b, off, none⟩ = some (.slice a0 m0 c0) := hc0
    have HS1 := hidden (HS0.out.drewN q)
    obtain ⟨wq, hwq⟩ : ∃ wq, wr.drewN q = wq := ⟨_, rfl⟩
    rw [hwq] at HB2 hc1 HS1 ⊢
    clear HC hc0 HS0 hwq HB
    by_cases hm0' : m = 0
    ·subst hm0'
     go_wp2
     go_ret
     rw [HR.out, List.take_zero]
     exact ⟨_, rfl, hidden (OwnB.nil _ _), HB2⟩
    ·have hmb : ((m : Int) == 0) = false := by simpa using hm0'
     rcases HS1.out.hat with h | ⟨b1, o1, rfl, hbb1, _⟩
     ·omega
     have HS2 : Hid (Sl wq (some ⟨b1, o1, none⟩) m c0 (d.key.take m)) := hidden (by
      have := HS1.out.piece 0 m c0 (by omega) (by omega)
      simpa using this)
     have hmc : m ≤ c0 := by omega
     have hmcI : (m : Int) ≤ (c0 : Int) := by omega
     have hmI : (m : Int) ≤ 140737488355328 := by omega
     have HA := hidden (radd_to (.slice none 0 0) w.heap.size [] (d.key.take m) (some ⟨b1, o1, none⟩) m c0 wq (OwnB.nil _ _) HS2.out (.inr (fun p hp e => by cases e)) (by simp; omega) HB2.out.size)
     clear HS1 HS2
     go_wp2_with (first | (go_at_call 78; refine HA.out.mono ?_; rintro e w3 ⟨v3, rfl, HO3, hb3⟩; refine Hid.out ?_))
     apply hidden
     have HB3 := hidden (HB2.out.trans hb3.out)
     rw [List.nil_append, ← HR.out] at HO3
     clear HA hb3 HB2 hc1
     go_wp2
     go_ret
     exact ⟨v3, rfl, HO3, HB3⟩
set_option maxHeartbeats 1000000 in
theorem rsize_any (k : Int) (ao : Option Addr) (n cap : Nat) (cs : List Cl) (w : World) (hs : SlC w ao n cap cs) (hn : n ≤ 900000) (hkv : ∀ c ∈ cs, c.key.length + c.val.length ≤ 35184372088832) (hz : szQ k (shP k cs).length cs ≤ 1099511627776) :
  Calls Tryz.prog 76 #[.int .i64 k, .slice ao n cap] w fun e w' => e = .returned (.int .i64 (szQ k (shP k cs).length cs : Int)) ∧ Hid (Below w.heap.size w w') := by
 have HA := hidden (rshared_any k ao n cap cs w hs hn)
 have HT := hidden (fun u (hu : Below w.heap.size w u) => rtaken_any k ao n cap (shP k cs).length cs u (hs.on hu) (fun j c hc hne => beg_len (shP_beg k cs c (mem_ktl hc (by omega)))) hkv hz)
 obtain ⟨P, hP⟩ : ∃ P, shP k cs = P := ⟨_, rfl⟩
 rw [hP] at HA HT hz ⊢
 have hzb : (P.length : Int) ≤ 1099511627776 := by unfold szQ at hz; omega
 clear hs hP hkv hz
 go_enter Tryz.func76, Tryz.ntmps76
 go_wp2_with (first | (go_at_call 77; refine HA.out.mono ?_; rintro e w1 ⟨v1, rfl, HO1, HB1⟩; refine Hid.out ?_))
 apply hidden
 obtain ⟨a1, c1, rfl⟩ := own_slice HO1.out
 clear HA HO1
 have HT1 := hidden (HT.out w1 HB1.out)
 clear HT
 go_wp2_with (first | (go_at_call 107; refine HT1.out.mono ?_; rintro e w2 ⟨rfl, HB2⟩; refine Hid.out ?_))
 apply hidden
 have HB := hidden (bl_go HB1.out (Nat.le_refl _) HB2.out)
 clear HT1
 go_wp2
 go_ret
 exact ⟨rfl, HB⟩
end Go.Proofs.YtlhkinlgolcpaaaGreatDoor
