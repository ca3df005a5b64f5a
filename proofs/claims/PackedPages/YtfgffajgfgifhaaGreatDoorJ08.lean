import Derived.Test.YtfgffajgfgifhaaGreatDoorJ07
namespace Go.Proofs.YtfgffajgfgifhaaGreatDoor
set_option maxRecDepth 100000
set_option maxHeartbeats 2000000
open Go.RowKit
theorem shn_take (a : List Int) : ∀ (r : List Cl) (j : Nat) (d : Cl), r[j]? = some d → shn a (r.take (j + 1)) = min (shn a (r.take j)) (lcp a d.key)
 | [], j, d, h => by simp at h
 | e :: r, 0, d, h => by
  simp at h
  subst h
  have := (lcp_le a e.key).1
  simp only [List.take_succ_cons, List.take_zero, shn]
  omega
 | e :: r, j + 1, d, h => by
  have ih := shn_take a r j d (by simpa using h)
  simp only [List.take_succ_cons, shn]
  rw [ih]
  omega
theorem cmN_two (t x : List Int) : cmN [t, x] = lcp t x := by
 unfold cmN
 simp
theorem sls_two {w : World} {g : Nat} {a1 a2 : Option Addr} {n1 c1 n2 c2 : Nat} {l1 l2 : List Int} (hg : w.heap[g]? = some (.cells #[.slice a1 n1 c1, .slice a2 n2 c2] 37 (0, 0))) (h1 : Sl w a1 n1 c1 l1) (h2 : Sl w a2 n2 c2 l2) : SlS w (some ⟨g, 0, none⟩) 2 2 [l1, l2] := by
 refine ⟨rfl, Lr, by omega, (by intro h; cases h), .inr ⟨g, 0, rfl, zag hg, fun i hi => ?_⟩⟩
 have hi' : i = 0 ∨ i = 1 := by omega
 rcases hi' with rfl | rfl
 ·exact ⟨a1, n1, c1, by rw [cell_of_row _ _ _ _ _ _ hg]; rfl, h1⟩
 ·exact ⟨a2, n2, c2, by rw [cell_of_row _ _ _ _ _ _ hg]; rfl, h2⟩
theorem palike_any (k : Int) (ao : Option Addr) (n cap : Nat) (cs : List Cl) (w : World) (hs : SlC w ao n cap cs) :
  Calls Tryz.prog 50 #[.int .i64 k, .slice ao n cap] w fun e w' => e = .returned (.int .i64 ((shP k cs).length : Int)) ∧ Hid (Below w.heap.size w w') := by
 have hn := hs.hroom
 have hcap := hs.hcap
 have hlen := hs.hlen
 by_cases h0 : n = 0
 ·subst h0
  obtain rfl : cs = [] := List.eq_nil_of_length_eq_zero hlen
  have hz : (shP k []).length = 0 := by unfold shP ktl; split <;> rfl
  rw [hz]
  clear hs
  go_enter Tryz.func50, Tryz.ntmps50
  go_wp2
  go_ret
  exact ⟨rfl, zaa Br⟩
 ·have hn0 : 0 < n := by omega
  have hnI : 0 < (n : Int) := by omega
  have d0 : ((n : Int) == 0) = false := by simp; omega
  obtain ⟨b, off, rfl⟩ : ∃ b off, ao = some ⟨b, off, none⟩ := by
   rcases hs.hat with h | ⟨b, off, e, _⟩
   ·exact absurd h h0
   ·exact ⟨b, off, e⟩
  by_cases hk : k = 3
  ·have hd : decide (k = 3 ∧ (0 : Int) = 0) = true := by simp [hk]
   have HSW : Hid (∀ u, Calls Tryz.prog 44 #[.int .i64 k, .int .i64 0] u fun e w' => e = .returned (.bool true) ∧ w' = u) := zaa (fun u => by have := zay k 0 u; rwa [hd] at this)
   clear hd
   have hkt : ktl k cs = cs.drop 1 := by unfold ktl; rw [if_pos hk, List.drop_one]
   clear hk
   unfold shP
   rw [hkt]
   by_cases h1 : n = 1
   ·subst h1
    have hz : (shr (cs.drop 1)).length = 0 := by rw [List.drop_eq_nil_of_le (by omega)]; rfl
    rw [hz]
    have hc1 : (1 : Int) ≤ (cap : Int) := by omega
    clear hs
    by_cases hcc : cap = 1
    ·subst hcc
     go_enter Tryz.func50, Tryz.ntmps50
     go_wp2_with (go_at_call 44; refine zae (HSW.out _) ?_)
     go_ret
     exact ⟨rfl, zaa Br⟩
    ·have hcc2 : 1 < cap := by omega
     have hcc3 : cap - 1 ≠ 0 := by omega
     go_enter Tryz.func50, Tryz.ntmps50
     go_wp2_with (go_at_call 44; refine zae (HSW.out _) ?_)
     go_ret
     exact ⟨rfl, zaa Br⟩
   ·have h2 := hs.piece 1 (n - 1) (cap - 1) (by omega) (by omega)
    have e2 : (cs.drop 1).take (n - 1) = cs.drop 1 := List.take_of_length_le (by rw [zK]; omega)
    rw [e2, Nat.one_mul] at h2
    generalize cs.drop 1 = ds at *
    have hc1 : (1 : Int) ≤ (cap : Int) := by omega
    have hcc3 : cap - 1 ≠ 0 := by omega
    have hcc4 : 1 < cap := by omega
    have hn3 : (1 : Int) ≤ (n : Int) := by omega
    have hn4 : 1 ≤ n := by omega
    obtain ⟨n', hn'⟩ : ∃ n', n - 1 = n' := ⟨_, rfl⟩
    obtain ⟨cap', hcap'⟩ : ∃ c', cap - 1 = c' := ⟨_, rfl⟩
    obtain ⟨off', hoff'⟩ : ∃ o', off + 5 = o' := ⟨_, rfl⟩
    rw [hn', hcap', hoff'] at h2
    have hnn : (n : Int) - 1 = (n' : Int) := by omega
    have hn0' : 0 < n' := by omega
    have hnI' : 0 < (n' : Int) := by omega
    have d0' : ((n' : Int) == 0) = false := by simp; omega
    clear hs hlen hkt e2
    have HSC := zaa h2
    obtain ⟨b1, off1, c, ka, kc, va, vc, hbo, hbl, hci, c0, c1, c2, c3, c4, hkS, hvS⟩ := h2.item 0 hn0'
    injection hbo with hbo
    injection hbo with hb1 hb2
    subst hb1 hb2
    simp only [Nat.zero_mul, Nat.add_zero] at c0
    obtain ⟨r, hds⟩ : ∃ r, ds = c :: r := by
     match ds, hci with
     | x :: r, hci => simp at hci; subst hci; exact ⟨r, rfl⟩
    have HKS := zaa hkS
    have hklr := hkS.hroom
    have hkcr := hkS.hcap
    have hll := h2.hlen
    rw [hds] at hll
    simp only [List.length_cons] at hll
    have HEND : Hid ((shr ds).length = shn c.key r) := zaa (by
     rw [hds]
     unfold shr
     rw [zJ]
     have := shn_le c.key r
     omega)
    have HR : Hid (∀ j u, j < n' - 1 → Below w.heap.size w u → ∃ d da dc dva dvc, r[j]? = some d ∧ u.cell? ⟨b, off' + 5 + j * 5, none⟩ = some (.slice da d.key.length dc) ∧ u.cell? ⟨b, off' + 5 + j * 5 + 1, none⟩ = some (.int .i64 d.kd) ∧ u.cell? ⟨b, off' + 5 + j * 5 + 2, none⟩ = some (.slice dva d.val.length dvc) ∧ u.cell? ⟨b, off' + 5 + j * 5 + 3, none⟩ = some (.int .i64 d.pg) ∧ u.cell? ⟨b, off' + 5 + j * 5 + 4, none⟩ = some (.int .i64 d.ct) ∧ Sl u da d.key.length dc d.key) := zaa (by
     intro j u hj hu
     obtain ⟨b2, off2, d, da, dc, dva, dvc, hbo2, _, hdi, e0, e1, e2, e3, e4, hdk, _⟩ := (HSC.out.on hu).item (j + 1) (by omega)
     injection hbo2 with hbo2
     injection hbo2 with g1 g2
     subst g1 g2
     rw [hds] at hdi
     rw [show off' + (j + 1) * 5 = off' + 5 + j * 5 by omega] at e0 e1 e2 e3 e4
     exact ⟨d, da, dc, dva, dvc, by simpa using hdi, e0, e1, e2, e3, e4, hdk⟩)
    have HLR : Hid (r.length = n' - 1) := zaa (by omega)
    obtain ⟨M, hM⟩ : ∃ M, n' - 1 = M := ⟨_, rfl⟩
    rw [hM] at HR HLR
    have hMI : (n' : Int) - 1 = (M : Int) := by omega
    have hMb : (M : Int) ≤ 140737488355328 := by omega
    rw [HEND.out]
    have cN1 : (1 : Int) ≤ (n' : Int) := by omega
    have cC1 : (1 : Int) ≤ (cap' : Int) := by omega
    have HSH0 : Hid (shn c.key (r.take 0) = c.key.length) := zaa (by simp [shn])
    clear h2 hkS hvS hci c1 c2 c3 c4 hds hll
    by_cases hcc : cap' = 1
    ·have hN1 : n' = 1 := by omega
     obtain rfl : M = 0 := by omega
     have hr0 : r = [] := List.eq_nil_of_length_eq_zero HLR.out
     have HFIN : Hid (shn c.key r = c.key.length) := zaa (by rw [hr0]; rfl)
     clear hr0
     rw [HFIN.out]
     subst hcc hN1
     go_enter Tryz.func50, Tryz.ntmps50
     go_wp2_with (go_at_call 44; refine zae (HSW.out _) ?_)
     go_loopw [5, 27] (fun sh i wr => sh = .slice ka c.key.length kc ∧ i = .int .i64 0 ∧ wr = w) (fun _ _ _ => 0)
     case atStart => exact ⟨rfl, rfl, rfl⟩
     case round =>
      obtain ⟨rfl, rfl, rfl⟩ := hrel
      go_wp2
      go_ret
      exact ⟨rfl, zaa Br⟩
    ·have hcc1 : 1 < cap' := by omega
     have hcc2 : cap' - 1 ≠ 0 := by omega
     go_enter Tryz.func50, Tryz.ntmps50
     go_wp2_with (go_at_call 44; refine zae (HSW.out _) ?_)
     go_loopw [5, 27] (fun sh i wr => ∃ j p : Nat, j ≤ M ∧ p ≤ c.key.length ∧ i = .int .i64 j ∧ sh = .slice ka p kc ∧ Hid (p = shn c.key (r.take j)) ∧ Hid (Below w.heap.size w wr)) (fun _ i _ => M - (intOf i).toNat)
     case atStart => exact ⟨0, c.key.length, by omega, by omega, rfl, rfl, zaa HSH0.out.symm, zaa Br⟩
     case round =>
      obtain ⟨j, p, hj, hp, rfl, rfl, HP, HB⟩ := hrel
      have bj : (j : Int) ≤ 140737488355328 := by omega
      have bp : (p : Int) ≤ 140737488355328 := by omega
      by_cases hlt : j < M
      ·have hltI : (j : Int) < (M : Int) := by omega
       obtain ⟨d, da, dc, dva, dvc, hdi, e0, e1, e2, e3, e4, hdk⟩ := HR.out j wr hlt HB.out
       have HDI := zaa hdi
       obtain ⟨x, hx⟩ : ∃ x, (wr.alloc (.cells #[.slice da d.key.length dc, .int .i64 d.kd, .slice dva d.val.length dvc, .int .i64 d.pg, .int .i64 d.ct] 39)).alloc (.cells #[.slice ka p kc, .slice da d.key.length dc] 37) = x := ⟨_, rfl⟩
       have hbx : Below wr.heap.size wr x := by rw [← hx]; exact zac (zac Br Lr _) Lr _
       have hg : x.heap[wr.heap.size + 1]? = some (.cells #[.slice ka p kc, .slice da d.key.length dc] 37 (0, 0)) := by
        have h1 := heap_alloc_last (wr.alloc (.cells #[.slice da d.key.length dc, .int .i64 d.kd, .slice dva d.val.length dvc, .int .i64 d.pg, .int .i64 d.ct] 39)) (.cells #[.slice ka p kc, .slice da d.key.length dc] 37)
        rw [hx] at h1
        simpa using h1
       have hsk : Sl x ka p kc (c.key.take p) := ((HKS.out.on Lr HB.out).on Lr hbx).take p (by omega)
       have HCM := zaa (common_any (some ⟨wr.heap.size + 1, 0, none⟩) 2 2 (c.key.take p) [d.key] x (sls_two hg hsk (hdk.on Lr hbx)))
       rw [cmN_two, lcp_take _ _ _ hp] at HCM
       have HNX := zaa (shn_take c.key r j d hdi)
       obtain ⟨q, hq⟩ : ∃ q, min p (lcp c.key d.key) = q := ⟨_, rfl⟩
       rw [hq] at HCM
       have hqp : q ≤ p := by omega
       have hqI : (q : Int) ≤ (p : Int) := by omega
       have hqc : (q : Int) ≤ (kc : Int) := by omega
       have HQ := zaa hq
       have HBX := zaa hbx
       clear hdk hdi hg hsk hbx hq
       go_wp2_with (go_at_call 91; refine HCM.out.mono ?_; rintro e w2 ⟨rfl, q2, rfl⟩)
       go_roundw
       case rel => exact ⟨j + 1, q, by omega, by omega, by go_num, rfl, zaa (by rw [HNX.out, ← HP.out]; exact HQ.out.symm), zaa (zad (zab HB.out Lr HBX.out) _)⟩
       case measure => simp [intOf]; omega
      ·obtain rfl : j = M := by omega
       have hlI : ¬ (j : Int) < (j : Int) := by omega
       have HT : Hid (p = shn c.key r) := zaa (by rw [HP.out, List.take_of_length_le (by rw [HLR.out]; exact Lr)])
       go_wp2
       go_ret
       rw [← HT.out]
       exact ⟨rfl, HB⟩
  ·have hd : decide (k = 3 ∧ (0 : Int) = 0) = false := by simp [hk]
   have HSW : Hid (∀ u, Calls Tryz.prog 44 #[.int .i64 k, .int .i64 0] u fun e w' => e = .returned (.bool false) ∧ w' = u) := zaa (fun u => by have := zay k 0 u; rwa [hd] at this)
   clear hd
   have hkt : ktl k cs = cs := by unfold ktl; rw [if_neg hk]
   clear hk
   unfold shP
   rw [hkt]
   have h2 := hs
   clear hkt
   have HSC := zaa h2
   obtain ⟨b1, off1, c, ka, kc, va, vc, hbo, hbl, hci, c0, c1, c2, c3, c4, hkS, hvS⟩ := h2.item 0 hn0
   injection hbo with hbo
   injection hbo with hb1 hb2
   subst hb1 hb2
   simp only [Nat.zero_mul, Nat.add_zero] at c0
   obtain ⟨r, hds⟩ : ∃ r, cs = c :: r := by
    match cs, hci with
    | x :: r, hci => simp at hci; subst hci; exact ⟨r, rfl⟩
   have HKS := zaa hkS
   have hklr := hkS.hroom
   have hkcr := hkS.hcap
   have hll := h2.hlen
   rw [hds] at hll
   simp only [List.length_cons] at hll
   have HEND : Hid ((shr cs).length = shn c.key r) := zaa (by
    rw [hds]
    unfold shr
    rw [zJ]
    have := shn_le c.key r
    omega)
   have HR : Hid (∀ j u, j < n - 1 → Below w.heap.size w u → ∃ d da dc dva dvc, r[j]? = some d ∧ u.cell? ⟨b, off + 5 + j * 5, none⟩ = some (.slice da d.key.length dc) ∧ u.cell? ⟨b, off + 5 + j * 5 + 1, none⟩ = some (.int .i64 d.kd) ∧ u.cell? ⟨b, off + 5 + j * 5 + 2, none⟩ = some (.slice dva d.val.length dvc) ∧ u.cell? ⟨b, off + 5 + j * 5 + 3, none⟩ = some (.int .i64 d.pg) ∧ u.cell? ⟨b, off + 5 + j * 5 + 4, none⟩ = some (.int .i64 d.ct) ∧ Sl u da d.key.length dc d.key) := zaa (by
    intro j u hj hu
    obtain ⟨b2, off2, d, da, dc, dva, dvc, hbo2, _, hdi, e0, e1, e2, e3, e4, hdk, _⟩ := (HSC.out.on hu).item (j + 1) (by omega)
    injection hbo2 with hbo2
    injection hbo2 with g1 g2
    subst g1 g2
    rw [hds] at hdi
    rw [show off + (j + 1) * 5 = off + 5 + j * 5 by omega] at e0 e1 e2 e3 e4
    exact ⟨d, da, dc, dva, dvc, by simpa using hdi, e0, e1, e2, e3, e4, hdk⟩)
   have HLR : Hid (r.length = n - 1) := zaa (by omega)
   obtain ⟨M, hM⟩ : ∃ M, n - 1 = M := ⟨_, rfl⟩
   rw [hM] at HR HLR
   have hMI : (n : Int) - 1 = (M : Int) := by omega
   have hMb : (M : Int) ≤ 140737488355328 := by omega
   rw [HEND.out]
   have cN1 : (1 : Int) ≤ (n : Int) := by omega
   have cC1 : (1 : Int) ≤ (cap : Int) := by omega
   have HSH0 : Hid (shn c.key (r.take 0) = c.key.length) := zaa (by simp [shn])
   clear h2 hkS hvS hci c1 c2 c3 c4 hds hll
   by_cases hcc : cap = 1
   ·have hN1 : n = 1 := by omega
    obtain rfl : M = 0 := by omega
    have hr0 : r = [] := List.eq_nil_of_length_eq_zero HLR.out
    have HFIN : Hid (shn c.key r = c.key.length) := zaa (by rw [hr0]; rfl)
    clear hr0
    rw [HFIN.out]
    subst hcc hN1
    go_enter Tryz.func50, Tryz.ntmps50
    go_wp2_with (go_at_call 44; refine zae (HSW.out _) ?_)
    go_loopw [5, 27] (fun sh i wr => sh = .slice ka c.key.length kc ∧ i = .int .i64 0 ∧ wr = w) (fun _ _ _ => 0)
    case atStart => exact ⟨rfl, rfl, rfl⟩
    case round =>
     obtain ⟨rfl, rfl, rfl⟩ := hrel
     go_wp2
     go_ret
     exact ⟨rfl, zaa Br⟩
   ·have hcc1 : 1 < cap := by omega
    have hcc2 : cap - 1 ≠ 0 := by omega
    go_enter Tryz.func50, Tryz.ntmps50
    go_wp2_with (go_at_call 44; refine zae (HSW.out _) ?_)
    go_loopw [5, 27] (fun sh i wr => ∃ j p : Nat, j ≤ M ∧ p ≤ c.key.length ∧ i = .int .i64 j ∧ sh = .slice ka p kc ∧ Hid (p = shn c.key (r.take j)) ∧ Hid (Below w.heap.size w wr)) (fun _ i _ => M - (intOf i).toNat)
    case atStart => exact ⟨0, c.key.length, by omega, by omega, rfl, rfl, zaa HSH0.out.symm, zaa Br⟩
    case round =>
     obtain ⟨j, p, hj, hp, rfl, rfl, HP, HB⟩ := hrel
     have bj : (j : Int) ≤ 140737488355328 := by omega
     have bp : (p : Int) ≤ 140737488355328 := by omega
     by_cases hlt : j < M
     ·have hltI : (j : Int) < (M : Int) := by omega
      obtain ⟨d, da, dc, dva, dvc, hdi, e0, e1, e2, e3, e4, hdk⟩ := HR.out j wr hlt HB.out
      have HDI := zaa hdi
      obtain ⟨x, hx⟩ : ∃ x, (wr.alloc (.cells #[.slice da d.key.length dc, .int .i64 d.kd, .slice dva d.val.length dvc, .int .i64 d.pg, .int .i64 d.ct] 39)).alloc (.cells #[.slice ka p kc, .slice da d.key.length dc] 37) = x := ⟨_, rfl⟩
      have hbx : Below wr.heap.size wr x := by rw [← hx]; exact zac (zac Br Lr _) Lr _
      have hg : x.heap[wr.heap.size + 1]? = some (.cells #[.slice ka p kc, .slice da d.key.length dc] 37 (0, 0)) := by
       have h1 := heap_alloc_last (wr.alloc (.cells #[.slice da d.key.length dc, .int .i64 d.kd, .slice dva d.val.length dvc, .int .i64 d.pg, .int .i64 d.ct] 39)) (.cells #[.slice ka p kc, .slice da d.key.length dc] 37)
       rw [hx] at h1
       simpa using h1
      have hsk : Sl x ka p kc (c.key.take p) := ((HKS.out.on Lr HB.out).on Lr hbx).take p (by omega)
      have HCM := zaa (common_any (some ⟨wr.heap.size + 1, 0, none⟩) 2 2 (c.key.take p) [d.key] x (sls_two hg hsk (hdk.on Lr hbx)))
      rw [cmN_two, lcp_take _ _ _ hp] at HCM
      have HNX := zaa (shn_take c.key r j d hdi)
      obtain ⟨q, hq⟩ : ∃ q, min p (lcp c.key d.key) = q := ⟨_, rfl⟩
      rw [hq] at HCM
      have hqp : q ≤ p := by omega
      have hqI : (q : Int) ≤ (p : Int) := by omega
      have hqc : (q : Int) ≤ (kc : Int) := by omega
      have HQ := zaa hq
      have HBX := zaa hbx
      clear hdk hdi hg hsk hbx hq
      go_wp2_with (go_at_call 91; refine HCM.out.mono ?_; rintro e w2 ⟨rfl, q2, rfl⟩)
      go_roundw
      case rel => exact ⟨j + 1, q, by omega, by omega, by go_num, rfl, zaa (by rw [HNX.out, ← HP.out]; exact HQ.out.symm), zaa (zad (zab HB.out Lr HBX.out) _)⟩
      case measure => simp [intOf]; omega
     ·obtain rfl : j = M := by omega
      have hlI : ¬ (j : Int) < (j : Int) := by omega
      have HT : Hid (p = shn c.key r) := zaa (by rw [HP.out, List.take_of_length_le (by rw [HLR.out]; exact Lr)])
      go_wp2
      go_ret
      rw [← HT.out]
      exact ⟨rfl, HB⟩
theorem qtk_tl (m : Nat) (c : Cl) : qtk m c = 3 + tL (c.key.length - m) + tlN c.kd c.val.length c.pg c.ct := by unfold qtk tlN; rfl
theorem qsm_take (m : Nat) : ∀ (cs : List Cl) (f : Bool) (j : Nat) (c : Cl), cs[j]? = some c → qsm m f (cs.take (j + 1)) = qsm m f (cs.take j) + qtk (if f = true ∧ j = 0 then 0 else m) c
 | [], f, j, c, h => by simp at h
 | d :: r, f, 0, c, h => by
  simp at h
  subst h
  simp [qsm]
 | d :: r, f, j + 1, c, h => by
  have ih := qsm_take m r false j c (by simpa using h)
  simp only [List.take_succ_cons, qsm]
  rw [ih]
  simp
  omega
theorem qsm_take_le (m : Nat) : ∀ (cs : List Cl) (f : Bool) (j : Nat), qsm m f (cs.take j) ≤ qsm m f cs
 | [], f, j => by simp
 | d :: r, f, 0 => by simp [qsm]
 | d :: r, f, j + 1 => by
  have ih := qsm_take_le m r false j
  simp only [List.take_succ_cons, qsm]
  omega
theorem zaw {k : Int} {cs : List Cl} {j : Nat} {c : Cl} (h : cs[j]? = some c) (hw : ¬ (k = 3 ∧ j = 0)) : c ∈ ktl k cs := by
 unfold ktl
 by_cases hk : k = 3
 ·rw [if_pos hk]
  obtain ⟨i, rfl⟩ : ∃ i, j = i + 1 := ⟨j - 1, by omega⟩
  match cs, h with
  | d :: r, h => exact List.mem_of_getElem? (by simpa using h)
 ·rw [if_neg hk]
  exact List.mem_of_getElem? h
theorem psize_any (k : Int) (ao : Option Addr) (n cap : Nat) (cs : List Cl) (w : World) (hs : SlC w ao n cap cs) (hz : szQ k (shP k cs).length cs ≤ 1099511627776) :
  Calls Tryz.prog 14 #[.int .i64 k, .slice ao n cap] w fun e w' => e = .returned (.int .i64 (szQ k (shP k cs).length cs : Int)) ∧ Hid (Below w.heap.size w w') := by
 have HS := zaa hs
 have hn := hs.hroom
 have HLEN := zaa hs.hlen
 have HA := zaa (palike_any k ao n cap cs w hs)
 have HBEG := zaa (zbe k cs)
 have hzq := hz
 unfold szQ at hzq ⊢
 have HZ := zaa hzq
 have HBL := zaa (fun c hc => zbv (HBEG.out c hc))
 obtain ⟨m, hm⟩ : ∃ m, (shP k cs).length = m := ⟨_, rfl⟩
 rw [hm] at HA HZ HBL hzq ⊢
 have hmb : (m : Int) ≤ 1099511627776 := by omega
 obtain ⟨f, hf⟩ : ∃ f, whl k = f := ⟨_, rfl⟩
 rw [hf] at HZ ⊢
 have HF : Hid (∀ i : Nat, (decide (k = 3 ∧ (i : Int) = 0)) = decide (f = true ∧ i = 0)) := zaa (by
  intro i
  rw [← hf]
  unfold whl
  simp)
 have HKT : Hid (∀ (j : Nat) (c : Cl), cs[j]? = some c → decide (f = true ∧ j = 0) = false → m ≤ c.key.length) := zaa (by
  intro j c hc hd
  have : ¬ (k = 3 ∧ j = 0) := by
   rw [← hf] at hd
   unfold whl at hd
   simpa using hd
  exact HBL.out c (zaw hc this))
 clear hs hz hm hzq hf
 go_enter Tryz.func14, Tryz.ntmps14
 go_wp2_with (go_at_call 50; refine HA.out.mono ?_; rintro e w1 ⟨rfl, HB1⟩; refine Hid.out ?_)
 apply zaa
 clear HA
 go_wp2_with fail
 go_loopw [6, 18] (fun v i wr => ∃ j q : Nat, j ≤ n ∧ q ≤ 1099511627776 ∧ i = .int .i64 j ∧ v = .int .i64 (q : Int) ∧ Hid (q = 10 + m + qsm m f (cs.take j)) ∧ Hid (Below w.heap.size w wr)) (fun _ i _ => n - (intOf i).toNat)
 case atStart => exact ⟨0, 10 + m, by omega, by have := HZ.out; omega, rfl, by go_num, zaa (by simp [qsm]), HB1⟩
 case round =>
  obtain ⟨j, q, hj, hq, rfl, rfl, HQ, HB⟩ := hrel
  have bj : (j : Int) ≤ 140737488355328 := by omega
  have bq : (q : Int) ≤ 1099511627776 := by omega
  by_cases hlt : j < n
  ·have hltI : (j : Int) < (n : Int) := by omega
   obtain ⟨b, off, c, ka, kc, va, vc, rfl, hb, hci, c0, c1, c2, c3, c4, hk, hv⟩ := (HS.out.on HB.out).item j hlt
   have hkr := hk.hroom
   have hvr := hv.hroom
   have HST := zaa (qsm_take m cs f j c hci)
   have hle := qsm_take_le m cs f (j + 1)
   rw [HST.out] at hle
   have hz := HZ.out
   have HMK := zaa (HKT.out j c hci)
   obtain ⟨x, hx⟩ : ∃ x, wr.alloc (.cells #[.slice ka c.key.length kc, .int .i64 c.kd, .slice va c.val.length vc, .int .i64 c.pg, .int .i64 c.ct] 39) = x := ⟨_, rfl⟩
   have hal : Below wr.heap.size wr x := by rw [← hx]; exact zac Br Lr _
   have hc5 : C5 x wr.heap.size (.slice ka c.key.length kc) (.int .i64 c.kd) (.slice va c.val.length vc) (.int .i64 c.pg) (.int .i64 c.ct) := by rw [← hx]; exact C5.box wr _ _ _ _ _
   obtain ⟨y0, y1, y2, y3, y4⟩ := hc5.cells
   have HTL := zaa (fun u => tailLen_any ka c.key.length kc c.kd va c.val.length vc c.pg c.ct u hvr)
   have HSW : Hid (∀ u, Calls Tryz.prog 44 #[.int .i64 k, .int .i64 (j : Int)] u fun e w' => e = .returned (.bool (decide (f = true ∧ j = 0))) ∧ w' = u) := zaa (fun u => by have := zay k (j : Int) u; rwa [HF.out j] at this)
   have HQT := zaa (qtk_tl (if f = true ∧ j = 0 then 0 else m) c)
   obtain ⟨K, hK⟩ : ∃ K, c.key.length = K := ⟨_, rfl⟩
   rw [hK] at hkr HTL HMK HQT c0 y0
   obtain ⟨tl, htl⟩ : ∃ tl, tlN c.kd c.val.length c.pg c.ct = tl := ⟨_, rfl⟩
   rw [htl] at HTL HQT
   have hcase : decide (f = true ∧ j = 0) = true ∨ decide (f = true ∧ j = 0) = false := by cases decide (f = true ∧ j = 0) <;> simp
   obtain ⟨R, hR, hRl, hRK⟩ : ∃ R : Nat, (decide (f = true ∧ j = 0) = true ∧ K = R ∨ decide (f = true ∧ j = 0) = false ∧ (K : Int) - (m : Int) = (R : Int)) ∧ qtk (if f = true ∧ j = 0 then 0 else m) c = 3 + tL R + tl ∧ R ≤ K := by
    rcases hcase with e | e
    ·have e' : f = true ∧ j = 0 := by simpa using e
     refine ⟨K, .inl ⟨e, rfl⟩, ?_, Lr⟩
     rw [HQT.out, if_pos e', Nat.sub_zero]
    ·have e' : ¬ (f = true ∧ j = 0) := by simpa using e
     have hmk := HMK.out e
     refine ⟨K - m, .inr ⟨e, by omega⟩, ?_, by omega⟩
     rw [HQT.out, if_neg e']
   rw [hRl] at HST hle
   have HTX := zaa (fun u => textLen_any R u (by omega))
   obtain ⟨tx, htx⟩ : ∃ tx, tL R = tx := ⟨_, rfl⟩
   rw [htx] at HTX HST hle
   have hqe := HQ.out
   have bK : (K : Int) ≤ 140737488355328 := by omega
   have bR : (R : Int) ≤ 140737488355328 := by omega
   have bt : (tx : Int) ≤ 1099511627776 := by omega
   have bl : (tl : Int) ≤ 1099511627776 := by omega
   have bsum : q + (3 + tx + tl) ≤ 1099511627776 := by omega
   have bw1 : IntKind.i64.wrap (3 + (tx : Int)) = 3 + (tx : Int) := by rw [IntKind.wrap_i64]; omega
   have bw2 : IntKind.i64.wrap (3 + (tx : Int) + (tl : Int)) = 3 + (tx : Int) + (tl : Int) := by rw [IntKind.wrap_i64]; omega
   have bw3 : IntKind.i64.wrap ((q : Int) + (3 + (tx : Int) + (tl : Int))) = ((q + (3 + tx + tl) : Nat) : Int) := by rw [IntKind.wrap_i64]; omega
   have HNX : Hid (q + (3 + tx + tl) = 10 + m + qsm m f (cs.take (j + 1))) := zaa (by rw [HST.out]; omega)
   clear hk hv hci hc5 hle hz HMK HQT hK htl hRl htx hqe HST hcase
   rcases hR with ⟨hd, rfl⟩ | ⟨hd, hRe⟩
   ·rw [hd] at HSW
    clear hd
    go_wp2_with (go_at_call 44; refine zae (HSW.out _) ?_)
    go_region_with (first | (go_at_call 51; refine zae (HTX.out _) ?_) | (go_at_call 52; refine (HTL.out _).mono ?_; rintro e w2 ⟨rfl, hb2⟩; have hbw := zab (show Below wr.heap.size wr _ from by first | exact hal | exact hal.drew | exact zad hal _ | exact (zad hal _).drew | go_grown) Lr hb2))
    all_goals
     go_wp2
     go_roundw
     case rel => exact ⟨j + 1, q + (3 + tx + tl), by omega, by omega, by go_num, by simp, HNX, zaa (by first | exact zab HB.out Lr hbw | exact zad (zab HB.out Lr hbw) _ | exact (zab HB.out Lr hbw).drew)⟩
     case measure => simp [intOf]; omega
   ·rw [hd] at HSW
    clear hd
    go_wp2_with (go_at_call 44; refine zae (HSW.out _) ?_)
    go_region_with (first | (go_at_call 51; refine zae (HTX.out _) ?_) | (go_at_call 52; refine (HTL.out _).mono ?_; rintro e w2 ⟨rfl, hb2⟩; have hbw := zab (show Below wr.heap.size wr _ from by first | exact hal | exact hal.drew | exact zad hal _ | exact (zad hal _).drew | go_grown) Lr hb2))
    all_goals
     go_wp2
     go_roundw
     case rel => exact ⟨j + 1, q + (3 + tx + tl), by omega, by omega, by go_num, by simp, HNX, zaa (by first | exact zab HB.out Lr hbw | exact zad (zab HB.out Lr hbw) _ | exact (zab HB.out Lr hbw).drew)⟩
     case measure => simp [intOf]; omega
  ·obtain rfl : j = n := by omega
   have hlI : ¬ (j : Int) < (j : Int) := by omega
   have HT : Hid (q = 10 + m + qsm m f cs) := zaa (by rw [HQ.out, List.take_of_length_le (by rw [HLEN.out]; exact Lr)])
   go_wp2
   go_ret
   rw [show (10 + (m : Int) + (qsm m f cs : Int)) = (q : Int) by have := HT.out; omega]
   exact ⟨rfl, HB⟩
end Go.Proofs.YtfgffajgfgifhaaGreatDoor
