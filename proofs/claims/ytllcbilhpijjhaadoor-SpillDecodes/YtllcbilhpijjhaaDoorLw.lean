/- A value that was written is read, whole and in pieces; what a bench holds then. -/
import Derived.Test.YtllcbilhpijjhaaDoorLv
namespace Go.Proofs.YtllcbilhpijjhaaDoor
open Go.RowKit Go.Maps

/-- A value on a bench: its pages. -/
structure Ly (M : Int → Option Pf) (P t C N : Nat) (v : List Int) : Prop where
  laid : LaidJ M P t C v C
  p : pw P
  t2 : 2 ≤ t
  tC : t + C ≤ 65536
  len : v.length = N
  wf : Wf v
  n1 : 1 ≤ N
  n2 : N ≤ 65536
  hC : pgN P N = C
  c1 : 1 ≤ C
  lo : (P - 16) * (C - 1) < N
  hi : N ≤ (P - 16) * C
set_option maxRecDepth 100000 in
theorem Ly.whole {M : Int → Option Pf} {P t C N : Nat} {v : List Int} (h : Ly M P t C N v) (r : Int) : thr M P N (pgN P N) (pgN P N).toNat (t : Int) [] [] r = (0, rng t C, v, r + C) := by
  have := thr_laid h.laid h.p h.t2 h.tC h.len h.lo C (Nat.le_refl _) C 0 (t : Int) r (by omega) (fun _ => rfl)
  rw [h.hC, Int.toNat_natCast]
  simp only [Nat.mul_zero, List.take_zero] at this
  rw [List.take_of_length_le (show v.length ≤ (P - 16) * C by rw [h.len]; exact h.hi)] at this
  exact this
set_option maxRecDepth 100000 in
theorem Ly.part {M : Int → Option Pf} {P t C N : Nat} {v : List Int} (h : Ly M P t C N v) (to : Nat) (h1 : 1 ≤ to) (h2 : to ≤ N) (r : Int) : ∃ T : Nat, thr M P N (pgN P N) (pgN P to).toNat (t : Int) [] [] r = (0, rng t T, v.take ((P - 16) * T), r + T) ∧ to ≤ (P - 16) * T ∧ T ≤ C := by
  obtain ⟨T, hT, t1, _, tlo, thi⟩ := pgN_nat h.p h1 (Nat.le_trans h2 h.n2)
  have hpl := pw_le h.p
  have hTC : T ≤ C := by
    have a1 : (P - 16) * (T - 1) < (P - 16) * C := Nat.lt_of_lt_of_le tlo (Nat.le_trans h2 h.hi)
    have := Nat.lt_of_mul_lt_mul_left a1
    omega
  refine ⟨T, ?_, thi, hTC⟩
  have := thr_laid h.laid h.p h.t2 h.tC h.len h.lo T hTC T 0 (t : Int) r (by omega) (fun _ => rfl)
  rw [h.hC, hT, Int.toNat_natCast]
  simp only [Nat.mul_zero, List.take_zero] at this
  exact this
set_option maxRecDepth 100000 in
theorem piece_eq {v : List Int} {k fr to : Nat} (h : to ≤ k) : ((v.take k).drop fr).take (to - fr) = (v.drop fr).take (to - fr) := by
  rw [List.drop_take, List.take_take, show min (to - fr) (k - fr) = to - fr by omega]
/-- What Slice of a value that was written comes to. -/
def PieceTo (may : Prop) (fr to : Int) (v : List Int) (w : World) (b m : Nat) (en pg ps rd : Int) (M : Int → Option Pf) (ct : Nat) (e : Ending) (u : World) : Prop :=
  ∃ so sn sc k, e = .returned (.tuple #[.slice so sn sc, .int .i64 k]) ∧ Hid ((∃ r, Bn u b m en pg ps r M ct ∧ 0 ≤ r ∧ r ≤ rd + 65536) ∧ Cf (· = b) w u ∧ ((may ∧ k = 0 ∧ Sl u so sn sc ((v.drop fr.toNat).take (to.toNat - fr.toNat))) ∨ (¬ may ∧ k = 1)))
set_option maxRecDepth 100000 in
theorem slice_all {w : World} {b m : Nat} {en ps rd : Int} {M : Int → Option Pf} {ct P t C N : Nat} {v : List Int} (h : Bn w b m en (P : Int) ps rd M ct) (hl : Ly M P t C N v) (fr to : Int) (hrd : rd < 1152921504606846976) (hr0 : 0 ≤ rd) (ht : Tab w) (h0 : 0 < w.heap.size) (hb0 : b ≠ 0) :
    Calls Tryd.prog 25 #[iB b, .int .i64 (t : Int), .int .i64 (N : Int), .int .i64 fr, .int .i64 to] w fun e u => PieceTo (0 ≤ fr ∧ fr ≤ to ∧ to ≤ N) fr to v w b m en P ps rd M ct e u := by
  have n1 := hl.n1
  have n2 := hl.n2
  have tC := hl.tC
  by_cases hm : 0 ≤ fr ∧ fr ≤ to ∧ to ≤ N
  · by_cases he : fr = to
    · subst he
      refine (slice_none h hl.p t N fr (by omega) (by omega) hm.1 hm.2.2).mono ?_
      rintro e u ⟨rfl, rfl⟩
      refine ⟨_, _, _, _, rfl, hidden ⟨⟨rd, h, hr0, by omega⟩, Cf.refl _ _, .inl ⟨hm, rfl, ?_⟩⟩⟩
      rw [Nat.sub_self, List.take_zero]
      exact ⟨rfl, Nat.le_refl _, by omega, Wf.nil, fun _ => rfl, .inl rfl⟩
    · obtain ⟨F, rfl⟩ : ∃ F : Nat, fr = F := ⟨fr.toNat, by omega⟩
      obtain ⟨T', rfl⟩ : ∃ T' : Nat, to = T' := ⟨to.toNat, by omega⟩
      obtain ⟨T, hT, hT1, hT2⟩ := hl.part T' (by omega) (by omega) rd
      have hlen : T' ≤ (v.take ((P - 16) * T)).length := by
        rw [List.length_take, hl.len]
        omega
      have hlen2 : (v.take ((P - 16) * T)).length ≤ 65536 := by
        rw [List.length_take, hl.len]
        omega
      refine (slice_may h hl.p t N F T' (wf64 _ (by omega) (by omega)) (by omega) (by omega) (by omega) (by omega) (fun _ => by rw [hT]; exact ⟨hlen, Nat.le_trans hlen2 (by omega), hl.wf.take _⟩) (by omega) hr0 ht h0 hb0).mono ?_
      rw [hT]
      rintro e u ⟨so, sn, sc, k, rfl, HQ⟩
      obtain ⟨rfl, _, h3, h4, h5⟩ := HQ.out
      obtain ⟨h6, rfl⟩ := h3 rfl
      refine ⟨_, _, _, _, rfl, hidden ⟨⟨_, h4, ?_, ?_⟩, h5, .inl ⟨hm, rfl, ?_⟩⟩⟩
      · show 0 ≤ rd + (T : Int); omega
      · show rd + (T : Int) ≤ rd + 65536; omega
      · rw [Int.toNat_natCast, Int.toNat_natCast]
        have hpe := piece_eq (v := v) (fr := F) hT1
        have h7 : OwnB u w.heap.size (.slice so (T' - F) sc) ((v.drop F).take (T' - F)) := by
          rw [← hpe]
          exact h6
        exact h7.sl2 ((hl.wf.drop _).take _) (by rw [List.length_take, List.length_drop, hl.len]; omega)
  · refine (slice_arg h hl.p t N fr to (by omega) (by omega) hm).mono ?_
    rintro e u ⟨rfl, rfl⟩
    exact ⟨_, _, _, _, rfl, hidden ⟨⟨rd, h, hr0, by omega⟩, Cf.refl _ _, .inr ⟨hm, rfl⟩⟩⟩
set_option maxRecDepth 100000 in
theorem Ly.keep {M M' : Int → Option Pf} {P t C N : Nat} {v : List Int} (h : Ly M P t C N v) (he : ∀ k, (t : Int) ≤ k → k < ((t + C : Nat) : Int) → M' k = M k) : Ly M' P t C N v :=
  ⟨h.laid.keep he, h.p, h.t2, h.tC, h.len, h.wf, h.n1, h.n2, h.hC, h.c1, h.lo, h.hi⟩
set_option maxRecDepth 100000 in
theorem Aw.oj {w u : World} {b m : Nat} {en pg ps rd : Int} {M : Int → Option Pf} {ct : Nat} (_ : Aw w b m en pg ps rd M ct) (hc : Cf (fun k => k = b ∨ k = m) w u) {B : Nat} {v : Value} {l : List Int} (ho : OwnJ w B v l) (hb : b < B) (hm : m < B) : OwnJ u B v l :=
  ho.cf hc (fun k hk e => by
    have := (ho.lt hk).1
    rcases e with e | e <;> omega)
set_option maxRecDepth 100000 in
theorem OwnJ.slj {w : World} {B : Nat} {ao : Option Addr} {n c : Nat} {l : List Int} (h : OwnJ w B (.slice ao n c) l) : SlJ w ao n c l := by
  obtain ⟨ao', c', e, hs⟩ := h.sl
  injection e with e1 e2 e3
  subst e1 e3
  rw [← e2] at hs
  exact hs
set_option maxRecDepth 100000 in
theorem taken_pre {w : World} {b m : Nat} {en pg rd : Int} {M : Int → Option Pf} {ct C : Nat} (h : Bn w b m en pg 65536 rd M ct) (hp : Pre M (2 + C)) (hC : C ≤ 65534) :
    Calls Tryd.prog 19 #[pB b] w fun e u => ∃ ao c, e = .returned (.slice ao C c) ∧ Hid (OwnJ u w.heap.size (.slice ao C c) (rng 2 C)) ∧ Hid (Below w.heap.size w u) := by
  refine (taken_list h (by omega) (by omega)).mono ?_
  rintro e u ⟨v, rfl, ho, hb⟩
  have h1 : OwnJ u w.heap.size v (rng 2 C) := by
    have := ho.out
    rw [tkL_pre hp, show min ((65536 : Int) - 2).toNat C = C by omega] at this
    exact this
  obtain ⟨ao, c, rfl, _⟩ := h1.sl
  rw [rng_length] at h1 ⊢
  exact ⟨ao, c, rfl, h1, hb⟩
set_option maxRecDepth 100000 in
/-- What Write of a value comes to. -/
theorem write_ly {w : World} {b m : Nat} {rd : Int} {P : Nat} {M : Int → Option Pf} {ct : Nat} (h : Aw w b m 1 (P : Int) 65536 rd M ct) (hp : pw P) (t C : Nat) (ht : 2 ≤ t) (hpre : Pre M t) (hct : ct + 2 = t) (htC : t + C ≤ 65536)
    (vo : Option Addr) (N vc : Nat) (v : List Int) (hv : Sl w vo N vc v) (hN : 1 ≤ N) (hN3 : N ≤ 65536) (hC : pgN P N = C) (hC1 : 1 ≤ C) (hN1 : (P - 16) * (C - 1) < N) (hN2 : N ≤ (P - 16) * C) :
    Calls Tryd.prog 22 #[iB b, .slice vo N vc] w fun e u => e = .returned (.tuple #[.int .i64 (t : Int), .int .i64 0]) ∧ Hid (∃ M', Aw u b m 1 (P : Int) 65536 rd M' (ct + C) ∧ Pre M' (t + C) ∧ Ly M' P t C N v ∧ (∀ k, k < (t : Int) → M' k = M k) ∧ Cf (fun k => k = b ∨ k = m) w u) := by
  refine (write_pre h.bn hp (by omega) (by omega) t C ht hpre hct (by omega) vo N vc v hv hN hN3 hC hC1 hN1 hN2 h.tab h.pos h.m0).mono ?_
  rintro e u ⟨rfl, HQ⟩
  obtain ⟨M', h1, h2, h3, h4, h5⟩ := HQ.out
  have h6 : Cf (fun k => k = b ∨ k = m) w u := h5.wide (fun k hk => .inr hk)
  exact ⟨rfl, hidden ⟨M', h.next h1 h6, h2, ⟨h3, hp, ht, htC, hv.hlen, hv.wf, hN, hN3, hC, hC1, hN1, hN2⟩, h4, h6⟩⟩
end Go.Proofs.YtllcbilhpijjhaaDoor
