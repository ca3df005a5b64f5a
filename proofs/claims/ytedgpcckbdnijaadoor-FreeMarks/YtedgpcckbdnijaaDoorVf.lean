/- The law's same; lists by their members; a page comes back. -/
import Derived.Test.YtedgpcckbdnijaaDoorVe
import Derived.Test.YtedgpcckbdnijaaDoorUt
namespace Go.Proofs.YtedgpcckbdnijaaDoor
open Go.RowKit Go.Maps

set_option maxRecDepth 100000 in
theorem SlZ.drew {w : World} {ao : Option Addr} {n cap : Nat} {l : List Int} (h : SlZ w ao n cap l) (q : Nat) : SlZ (w.drewN q) ao n cap l := h.cf (Cf.drew (fun _ => False) w q) (.inr fun _ _ h => h)
set_option maxRecDepth 100000 in
theorem ext_getD {a b : List Int} (hl : a.length = b.length) (h : ∀ i, i < a.length → a.getD i 0 = b.getD i 0) : a = b := by
  apply List.ext_getElem hl
  intro i h1 h2
  have := h i h1
  rw [List.getD, List.getD, List.getElem?_eq_getElem h1, List.getElem?_eq_getElem h2] at this
  exact this
set_option maxRecDepth 100000 in
set_option maxHeartbeats 1000000 in
theorem sameZ_any (ao bo : Option Addr) (n m c d : Nat) (la lb : List Int) (w : World) (ha : SlZ w ao n c la) (hb : SlZ w bo m d lb) :
    Calls Tryd.prog 15 #[.slice ao n c, .slice bo m d] w fun e u => e = .returned (.bool (decide (la = lb))) ∧ ∃ q, u = w.drewN q := by
  have HA := hidden ha
  have HB := hidden hb
  have hla := ha.hlen
  have hlb := hb.hlen
  have hna := ha.hbig
  have hnb := hb.hbig
  by_cases hnm : n = m
  · subst hnm
    have HLA := hidden hla
    have HLB := hidden hlb
    obtain ⟨E, hE⟩ : ∃ E, decide (la = lb) = E := ⟨_, rfl⟩
    have HE := hidden hE
    rw [hE]
    clear ha hb hla hlb hE hnb
    go_enter Tryd.func15, Tryd.ntmps15
    go_wp2_with fail
    go_loopw [5] (fun i wr => (∃ q, wr = w.drewN q) ∧ ∃ k : Nat, k ≤ n ∧ i = .int .i64 (k : Int) ∧ Hid (∀ j, j < k → la.getD j 0 = lb.getD j 0)) (fun i _ => n - (RowKit.intOf i).toNat)
    case atStart => exact ⟨⟨0, rfl⟩, 0, by omega, rfl, hidden (fun j hj => by omega)⟩
    case round =>
      obtain ⟨⟨q, hq⟩, k, hk, rfl, HJ⟩ := hrel
      have HA1 : Hid (SlZ wr ao n c la) := hidden (by rw [hq]; exact HA.out.drew q)
      have HB1 : Hid (SlZ wr bo n d lb) := hidden (by rw [hq]; exact HB.out.drew q)
      have HQ := hidden hq
      clear hq
      by_cases hlt : k < n
      · have hltI : (k : Int) < (n : Int) := by omega
        obtain ⟨b1, o1, rfl, c1⟩ := HA1.out.at hlt
        obtain ⟨b2, o2, rfl, c2⟩ := HB1.out.at hlt
        by_cases hxy : la.getD k 0 = lb.getD k 0
        · rw [← hxy] at c2
          have HJ2 : Hid (∀ j, j < k + 1 → la.getD j 0 = lb.getD j 0) := hidden (fun j hj => by
            by_cases e : j = k
            · rw [e]; exact hxy
            · exact HJ.out j (by omega))
          clear hxy
          generalize la.getD k 0 = x at *
          go_wp2_with fail
          go_quiet (fail)
          go_wp2_with fail
          go_roundw
          case rel => exact ⟨⟨q + nq, by rw [HQ.out]; simp [World.drewN, Nat.add_assoc]⟩, k + 1, by omega, by go_num, HJ2⟩
          case measure => simp [RowKit.intOf]; omega
        · have HE0 : Hid (E = false) := hidden (by
            rw [← HE.out, decide_eq_false_iff_not]
            exact fun e => hxy (by rw [e]))
          have hne : (la.getD k 0 == lb.getD k 0) = false := by rw [beq_eq_false_iff_ne]; exact hxy
          generalize la.getD k 0 = x at *
          generalize lb.getD k 0 = y at *
          go_wp2_with fail
          go_quiet (fail)
          go_wp2_with fail
          go_ret
          exact ⟨by rw [HE0.out]; rfl, q + nq, by rw [HQ.out]; simp [World.drewN, Nat.add_assoc]⟩
      · obtain rfl : k = n := by omega
        have HE1 : Hid (E = true) := hidden (by
          rw [← HE.out, decide_eq_true_eq]
          exact ext_getD (by rw [HLA.out, HLB.out]) (fun i hi => HJ.out i (by rw [HLA.out] at hi; exact hi)))
        go_wp2_with fail
        go_ret
        exact ⟨by rw [HE1.out]; rfl, q, HQ.out⟩
  · have hE : decide (la = lb) = false := by
      rw [decide_eq_false_iff_not]
      intro e
      rw [e] at hla
      omega
    rw [hE]
    have hne : ((n : Int) == (m : Int)) = false := by rw [beq_eq_false_iff_ne]; omega
    clear ha hb hla hlb hE
    go_enter Tryd.func15, Tryd.ntmps15
    go_wp2_with fail
    go_ret
    exact ⟨rfl, 0, rfl⟩
set_option maxRecDepth 100000 in
/-- Rising lists with the same members are one. -/
theorem kL_eq {K : Int → Option Int} (hK : Pgs K) (f : Int → Bool) {l : List Int} (hr : l.Pairwise (· < ·)) (hm : ∀ x, x ∈ l ↔ ∃ s, K x = some s ∧ f s = true) : kL K f = l := by
  have hp : (kL K f).Perm l := (List.perm_ext_iff_of_nodup ((kL_rises K f).imp (fun h => by omega)) (hr.imp (fun h => by omega))).2 fun x => by rw [hm, kL_mem hK]
  exact List.Perm.eq_of_pairwise (le := fun a b => a < b) (fun a b _ _ h1 h2 => by omega) (kL_rises K f) hr hp
set_option maxRecDepth 100000 in
theorem lt4 {x : Int} (h : x < 4294967296) : x < 256 ^ 4 := by
  have e4 : (256 : Int) ^ 4 = 4294967296 := by decide
  omega
set_option maxRecDepth 100000 in
theorem frB_reads (n : Int) (l : List Int) (P : Nat) (hn : 0 ≤ n ∧ n < 65536) (hl : ∀ x ∈ l, isPg x) (hc : l.length < 65536) : rdN (frB n l P) 2 2 = l.length ∧ rdN (frB n l P) 4 4 = n ∧ frP (frB n l P) = l := by
  obtain ⟨Z, hZ⟩ : ∃ Z, Z = zs (P - 12 - 4 * l.length) ++ fB 4 (sumN [frH n l P]) := ⟨_, rfl⟩
  have e : frB n l P = [5, 0] ++ (fB 2 l.length ++ (fB 4 n ++ (frT l ++ Z))) := by
    rw [hZ]
    simp only [frB, sealB, frH, List.append_assoc]
  have e1 : rdN (frB n l P) 2 2 = l.length := by
    rw [e, rdN_mid [5, 0] (fB 2 l.length) _ 2 2 rfl (fB_length _ _), fB_read 2 _ (by omega) (by simp; omega)]
  have e2 : rdN (frB n l P) 4 4 = n := by
    rw [e, show [5, 0] ++ (fB 2 l.length ++ (fB 4 n ++ (frT l ++ Z))) = ([5, 0] ++ fB 2 l.length) ++ (fB 4 n ++ (frT l ++ Z)) from by simp only [List.append_assoc], rdN_mid _ (fB 4 n) _ 4 4 (by simp [fB_length]) (fB_length _ _), fB_read 4 _ (by omega) (lt4 (by omega))]
  refine ⟨e1, e2, ?_⟩
  apply ext_getD
  · rw [frP_length, e1]; rfl
  · intro i hi
    rw [frP_length, e1] at hi
    have hi' : i < l.length := by simpa using hi
    rw [frP_at _ _ (by rw [e1]; exact hi)]
    have h1 : l = l.take i ++ ([l.getD i 0] ++ l.drop (i + 1)) := by
      rw [← List.append_assoc, ← takeZ l i hi', List.take_append_drop]
    have h2 : frT l = frT (l.take i) ++ (fB 4 (l.getD i 0) ++ frT (l.drop (i + 1))) := by
      conv => lhs; rw [h1]
      rw [frT_append, frT_append, frT_one]
    have h3 : isPg (l.getD i 0) := hl _ (getD_mem l i hi')
    rw [e, h2]
    rw [show [5, 0] ++ (fB 2 l.length ++ (fB 4 n ++ ((frT (l.take i) ++ (fB 4 (l.getD i 0) ++ frT (l.drop (i + 1)))) ++ Z))) = ([5, 0] ++ (fB 2 l.length ++ (fB 4 n ++ frT (l.take i)))) ++ (fB 4 (l.getD i 0) ++ (frT (l.drop (i + 1)) ++ Z)) from by simp only [List.append_assoc]]
    rw [rdN_mid _ (fB 4 (l.getD i 0)) _ (8 + 4 * i) 4 (by simp [fB_length, frT_length, List.length_take, Nat.min_eq_left (Nat.le_of_lt hi')]; omega) (fB_length _ _), fB_read 4 _ (by omega) (lt4 (by omega))]
set_option maxRecDepth 100000 in
theorem frD_of {n : Int} {l : List Int} {P : Nat} (h : frE n l P = 0) : frD (frB n l P) = (n, l, 0) := by
  obtain ⟨h1, h2, h3, h4⟩ := frE_zero h
  have hp := pwb_le h1
  obtain ⟨e1, e2, e3⟩ := frB_reads n l P (by omega) (rsE_zero l 0 h4) (by omega)
  have hl := frB_length n l P (by omega)
  unfold frD frOk
  rw [e1, e2, e3, hl]
  simp [h1, h3, h]
end Go.Proofs.YtedgpcckbdnijaaDoor
