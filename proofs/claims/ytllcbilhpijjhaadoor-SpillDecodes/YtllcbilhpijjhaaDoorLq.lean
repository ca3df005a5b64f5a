/- spill: Free, Write. -/
import Derived.Test.YtllcbilhpijjhaaDoorLp
namespace Go.Proofs.YtllcbilhpijjhaaDoor
open Go.RowKit Go.Maps

set_option maxRecDepth 100000 in
theorem thr_ok (M : Int → Option Pf) (pg n all : Int) : ∀ (k : Nat) (a : Int) (ps d : List Int) (r : Int) (ps' d' : List Int) (r' : Int), thr M pg n all k a ps d r = (0, ps', d', r') → ps.Nodup → (∀ p ∈ ps, (M p).isSome = true) → ps'.Nodup ∧ ∀ p ∈ ps', (M p).isSome = true
  | 0, a, ps, d, r, ps', d', r', h, h1, h2 => by
    simp only [thr, Prod.mk.injEq] at h
    obtain ⟨_, rfl, _, _⟩ := h
    exact ⟨h1, h2⟩
  | k + 1, a, ps, d, r, ps', d', r', h, h1, h2 => by
    simp only [thr] at h
    split at h
    · simp at h
    · rename_i hni
      split at h
      · rename_i e he
        simp only [Prod.mk.injEq] at h
        exact absurd h.1 (ldM_fault he)
      · rename_i x hx
        split at h
        · simp at h
        · refine thr_ok M pg n all k _ _ _ _ ps' d' r' h ?_ ?_
          · rw [List.nodup_append]
            refine ⟨h1, by simp, ?_⟩
            intro p hp q hq e
            simp only [List.mem_singleton] at hq
            subst hq e
            exact hni hp
          · intro p hp
            rcases List.mem_append.1 hp with hp | hp
            · exact h2 p hp
            · simp only [List.mem_singleton] at hp
              subst hp
              unfold ldM at hx
              split at hx
              · cases hx
              · rename_i f hf
                rw [hf]
                rfl
set_option maxRecDepth 100000 in
theorem Cf.wide {F G : Nat → Prop} {a b : World} (h : Cf F a b) (hg : ∀ k, F k → G k) : Cf G a b := ⟨h.os, h.tape, h.output, h.size, fun k hk hf => h.block k hk (fun e => hf (hg k e))⟩
/-- Without these pages. -/
def delL (M : Int → Option Pf) (ps : List Int) : Int → Option Pf := fun k => if k ∈ ps then none else M k
set_option maxRecDepth 100000 in
theorem delL_nil (M : Int → Option Pf) : delL M [] = M := by
  funext k
  simp [delL]
set_option maxRecDepth 100000 in
theorem delL_snoc (M : Int → Option Pf) (ps : List Int) (p : Int) : delM (delL M ps) p = delL M (ps ++ [p]) := by
  funext k
  unfold delM delL
  by_cases h : k = p
  · simp [h]
  · rw [if_neg h]
    simp [h]
set_option maxRecDepth 100000 in
theorem take_snocI (l : List Int) (k : Nat) (h : k < l.length) : l.take (k + 1) = l.take k ++ [l.getD k 0] := by
  rw [List.take_add_one]
  simp [List.getElem?_eq_getElem h, List.getD]
set_option maxRecDepth 100000 in
set_option maxHeartbeats 1000000 in
theorem free_may {w : World} {b m : Nat} {en pg ps rd : Int} {M : Int → Option Pf} {ct : Nat} (h : Bn w b m en pg ps rd M ct) (hp : pw pg) (first n : Int) (hf : (Lit.int .i64 first).wf = true) (hn : 1 ≤ n) (hn2 : n ≤ 65536) (hrd : rd < 2305843009213693952) (hr0 : 0 ≤ rd) (ht : Tab w) (h0 : 0 < w.heap.size) (hb0 : b ≠ 0)
    (ql d : List Int) (r : Int) (hx : thr M pg n (pgN pg n) (pgN pg n).toNat first [] [] rd = (0, ql, d, r)) (hql : ql.length ≤ 65537) (hwf : ∀ p ∈ ql, 2 ≤ p ∧ p < 65536 ∨ p = first) :
    Calls Tryd.prog 26 #[iB b, .int .i64 first, .int .i64 n] w fun e u => e = .returned (.int .i64 0) ∧ Hid (Bn u b m en pg ps r (delL M ql) (ct - ql.length) ∧ Cf (fun k => k = b ∨ k = m) w u) := by
  have HL := hidden (list_may h hp first n hf hn hn2 hrd hr0 ht h0 hb0)
  rw [hx] at HL
  obtain ⟨hnd, hsm⟩ := thr_ok M pg n _ _ first [] [] rd ql d r hx List.nodup_nil (fun p hp => absurd hp List.not_mem_nil)
  have HBS := hidden (And.intro h.lt h.mlt)
  have HND := hidden hnd
  have HSM := hidden hsm
  have HWF := hidden hwf
  have HF := hidden hf
  clear h hp ht hx hnd hsm hwf hf
  go_enter Tryd.func26, Tryd.ntmps26
  go_wp2_with (first
    | (go_at_call 24; refine HL.out.mono ?_; rintro e w1 ⟨ao, an, ac, k, rfl, HQ⟩; refine Hid.out ?_))
  apply hidden
  clear HL
  obtain ⟨q1, q2, q3, q4, q5⟩ := HQ.out
  obtain rfl : k = 0 := q1.symm
  have HJ : Hid (OwnJ w1 w.heap.size (.slice ao an ac) ql) := hidden q2
  have HB1 : Hid (Bn w1 b m en pg ps r M ct) := hidden q4
  have HC1 : Hid (Cf (· = b) w w1) := hidden q5
  have hanq : an = ql.length := q3
  have HAN := hidden hanq
  have hanI : (an : Int) ≤ 65537 := by omega
  have HSJ : Hid (SlJ w1 ao an ac ql) := hidden (by
    obtain ⟨ao', c', e, hs⟩ := q2.sl
    injection e with e1 e2 e3
    subst e1 e3
    rw [← e2] at hs
    exact hs)
  clear q1 q2 q3 q4 q5 HQ hanq
  go_wp2_with fail
  go_loopw [24] (fun i wr => ∃ j : Nat, j ≤ an ∧ i = .int .i64 (j : Int) ∧ Hid (Bn wr b m en pg ps r (delL M (ql.take j)) (ct - j) ∧ Cf (· = m) w1 wr)) (fun i _ => an - (intOf i).toNat)
  case atStart => exact ⟨0, by omega, rfl, hidden ⟨by rw [List.take_zero, delL_nil]; exact HB1.out, Cf.refl _ _⟩⟩
  case round =>
    obtain ⟨j, hj, rfl, HR⟩ := hrel
    by_cases hlt : j < an
    · have hltI : (j : Int) < (an : Int) := by omega
      obtain ⟨ab, rfl, hab, hcs⟩ : ∃ b, ao = some ⟨b, 0, none⟩ ∧ b < w1.heap.size ∧ ∀ i, i < an → w1.cell? ⟨b, i, none⟩ = some (.int .i64 (ql.getD i 0)) := by
        rcases HSJ.out.hat with h | h
        · omega
        · exact h
      have cj : wr.cell? ⟨ab, j, none⟩ = some (.int .i64 (ql.getD j 0)) := by
        rw [← hcs j hlt]
        exact World.cell?_of_block (HR.out.2.block ab hab (fun e => by
          have h1 := (HJ.out.lt (k := ab) rfl).1
          have h2 := HBS.out.2
          omega))
      have hjl : j < ql.length := by rw [← HAN.out]; exact hlt
      have hmem : ql.getD j 0 ∈ ql := by
        rw [show ql.getD j 0 = ql[j] from by simp [List.getD, hjl]]
        exact List.getElem_mem hjl
      have hnot : ¬ ql.getD j 0 ∈ ql.take j := by
        intro hm
        have h1 := HND.out
        rw [← List.take_append_drop j ql, List.nodup_append] at h1
        have h2 : ql.getD j 0 ∈ ql.drop j := by rw [drop_cons ql j hjl]; simp
        exact h1.2.2 _ hm _ h2 rfl
      have HSN := hidden (take_snocI ql j hjl)
      have hwy : (Lit.int .i64 (ql.getD j 0)).wf = true := by
        rcases HWF.out _ hmem with h | h
        · exact wf64 _ (by omega) (by omega)
        · rw [h]; exact HF.out
      have hso : ((delL M (ql.take j)) (ql.getD j 0)).isSome = true := by
        unfold delL
        rw [if_neg hnot]
        exact HSM.out _ hmem
      obtain ⟨y, hy⟩ : ∃ y, ql.getD j 0 = y := ⟨_, rfl⟩
      rw [hy] at cj hso HSN hwy
      have HFR := hidden (bfree_any HR.out.1 y hwy)
      have HSO := hidden hso
      clear hcs hmem hnot hy hso hwy
      go_wp2_with (first
        | (go_at_call 65; refine HFR.out.mono ?_; rintro e w2 ⟨k, rfl, HK⟩; refine Hid.out ?_))
      apply hidden
      clear HFR
      obtain ⟨rfl, hb2, hc2⟩ : k = 0 ∧ Bn w2 b m en pg ps r (delM (delL M (ql.take j)) y) (ct - j - 1) ∧ Cf (· = m) wr w2 := by
        rcases HK.out with ⟨h1, _⟩ | ⟨_, h1, h2, h3⟩
        · have := HSO.out
          rw [h1] at this
          cases this
        · exact ⟨h1, h2, h3⟩
      have HX : Hid (Bn w2 b m en pg ps r (delL M (ql.take (j + 1))) (ct - (j + 1)) ∧ Cf (· = m) w1 w2) := hidden (by
        rw [HSN.out, ← delL_snoc, ← Nat.sub_sub]
        exact ⟨hb2, HR.out.2.go hc2⟩)
      clear HK hb2 hc2
      go_wp2
      go_roundw
      case rel => exact ⟨j + 1, by omega, by go_num, HX⟩
      case measure => simp [intOf]; omega
    · obtain rfl : j = an := by omega
      have hlI : ¬ (j : Int) < (j : Int) := by omega
      go_wp2
      go_ret
      refine ⟨rfl, hidden ?_⟩
      have h1 := HR.out.1
      rw [List.take_of_length_le (by rw [HAN.out]; exact Nat.le_refl _)] at h1
      rw [← HAN.out]
      exact ⟨h1, (HC1.out.wide (fun k h => .inl h)).go (HR.out.2.wide (fun k h => .inr h))⟩
end Go.Proofs.YtllcbilhpijjhaaDoor
