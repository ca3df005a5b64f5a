/- spill: Read, List, Slice. -/
import Derived.Test.YtllcbilhpijjhaaDoorLo
namespace Go.Proofs.YtllcbilhpijjhaaDoor
open Go.RowKit Go.Maps

/-- What Read comes to. -/
def ReadTo (x : Int × List Int × List Int × Int) (w : World) (b m : Nat) (en pg ps : Int) (M : Int → Option Pf) (ct : Nat) (e : Ending) (u : World) : Prop :=
  ∃ bo bn bc k, e = .returned (.tuple #[.slice bo bn bc, .int .i64 k]) ∧ Hid (x.1 = k ∧ OwnB u w.heap.size (.slice bo bn bc) x.2.2.1 ∧ bn = x.2.2.1.length ∧ Bn u b m en pg ps x.2.2.2 M ct ∧ Cf (· = b) w u)
set_option maxRecDepth 100000 in
theorem read_may {w : World} {b m : Nat} {en pg ps rd : Int} {M : Int → Option Pf} {ct : Nat} (h : Bn w b m en pg ps rd M ct) (hp : pw pg) (first n : Int) (hf : (Lit.int .i64 first).wf = true) (hn : 1 ≤ n) (hn2 : n ≤ 65536) (hrd : rd < 2305843009213693952) (hr0 : 0 ≤ rd) (ht : Tab w) (h0 : 0 < w.heap.size) (hb0 : b ≠ 0) :
    Calls Tryd.prog 23 #[iB b, .int .i64 first, .int .i64 n] w fun e u => ReadTo (thr M pg n (pgN pg n) (pgN pg n).toNat first [] [] rd) w b m en pg ps M ct e u := by
  have HL := hidden (mayLie_any h hp n)
  have HT := hidden (through_any h hp first n n hf (by omega) hn2 (by omega) hn2 hrd hr0 ht h0 hb0)
  have e1 : decide (1 ≤ n ∧ n ≤ 65536) = true := by simp; omega
  clear h hp ht
  go_enter Tryd.func23, Tryd.ntmps23
  go_wp2_with (first
    | (go_at_call 52; refine same_call HL.out ?_; rw [e1])
    | (go_at_call 55; refine HT.out.mono ?_; rintro e u ⟨ao, an, ac, bo, bn, bc, k, rfl, HQ⟩))
  go_ret2
  obtain ⟨q1, q2, q3, q4, q5, q6, q7⟩ := HQ.out
  exact ⟨_, _, _, _, rfl, hidden ⟨q1, q4, q5, q6, q7⟩⟩
/-- What List comes to. -/
def ListTo (x : Int × List Int × List Int × Int) (w : World) (b m : Nat) (en pg ps : Int) (M : Int → Option Pf) (ct : Nat) (e : Ending) (u : World) : Prop :=
  ∃ ao an ac k, e = .returned (.tuple #[.slice ao an ac, .int .i64 k]) ∧ Hid (x.1 = k ∧ OwnJ u w.heap.size (.slice ao an ac) x.2.1 ∧ an = x.2.1.length ∧ Bn u b m en pg ps x.2.2.2 M ct ∧ Cf (· = b) w u)
set_option maxRecDepth 100000 in
theorem list_may {w : World} {b m : Nat} {en pg ps rd : Int} {M : Int → Option Pf} {ct : Nat} (h : Bn w b m en pg ps rd M ct) (hp : pw pg) (first n : Int) (hf : (Lit.int .i64 first).wf = true) (hn : 1 ≤ n) (hn2 : n ≤ 65536) (hrd : rd < 2305843009213693952) (hr0 : 0 ≤ rd) (ht : Tab w) (h0 : 0 < w.heap.size) (hb0 : b ≠ 0) :
    Calls Tryd.prog 24 #[iB b, .int .i64 first, .int .i64 n] w fun e u => ListTo (thr M pg n (pgN pg n) (pgN pg n).toNat first [] [] rd) w b m en pg ps M ct e u := by
  have HL := hidden (mayLie_any h hp n)
  have HT := hidden (through_any h hp first n n hf (by omega) hn2 (by omega) hn2 hrd hr0 ht h0 hb0)
  have e1 : decide (1 ≤ n ∧ n ≤ 65536) = true := by simp; omega
  clear h hp ht
  go_enter Tryd.func24, Tryd.ntmps24
  go_wp2_with (first
    | (go_at_call 52; refine same_call HL.out ?_; rw [e1])
    | (go_at_call 55; refine HT.out.mono ?_; rintro e u ⟨ao, an, ac, bo, bn, bc, k, rfl, HQ⟩))
  go_ret2
  obtain ⟨q1, q2, q3, q4, q5, q6, q7⟩ := HQ.out
  exact ⟨_, _, _, _, rfl, hidden ⟨q1, q2, q3, q6, q7⟩⟩
/-- What Slice comes to, for a piece that there may be. -/
def SliceTo (x : Int × List Int × List Int × Int) (from_ to_ : Nat) (w : World) (b m : Nat) (en pg ps : Int) (M : Int → Option Pf) (ct : Nat) (e : Ending) (u : World) : Prop :=
  ∃ bo bn bc k, e = .returned (.tuple #[.slice bo bn bc, .int .i64 k]) ∧ Hid (x.1 = k ∧ (k ≠ 0 → bn = 0) ∧ (k = 0 → OwnB u w.heap.size (.slice bo bn bc) ((x.2.2.1.drop from_).take (to_ - from_)) ∧ bn = to_ - from_) ∧ Bn u b m en pg ps x.2.2.2 M ct ∧ Cf (· = b) w u)
set_option maxRecDepth 100000 in
set_option maxHeartbeats 1000000 in
theorem slice_may {w : World} {b m : Nat} {en pg ps rd : Int} {M : Int → Option Pf} {ct : Nat} (h : Bn w b m en pg ps rd M ct) (hp : pw pg) (first n : Int) (fr to : Nat) (hf : (Lit.int .i64 first).wf = true) (hn : 1 ≤ n) (hn2 : n ≤ 65536) (hft : fr < to) (htn : (to : Int) ≤ n)
    (hlen : (thr M pg n (pgN pg n) (pgN pg to).toNat first [] [] rd).1 = 0 → to ≤ (thr M pg n (pgN pg n) (pgN pg to).toNat first [] [] rd).2.2.1.length ∧ (thr M pg n (pgN pg n) (pgN pg to).toNat first [] [] rd).2.2.1.length ≤ 8589934592 ∧ Wf (thr M pg n (pgN pg n) (pgN pg to).toNat first [] [] rd).2.2.1) (hrd : rd < 2305843009213693952) (hr0 : 0 ≤ rd) (ht : Tab w) (h0 : 0 < w.heap.size) (hb0 : b ≠ 0) :
    Calls Tryd.prog 25 #[iB b, .int .i64 first, .int .i64 n, .int .i64 (fr : Int), .int .i64 (to : Int)] w fun e u => SliceTo (thr M pg n (pgN pg n) (pgN pg to).toNat first [] [] rd) fr to w b m en pg ps M ct e u := by
  have HL := hidden (mayLie_any h hp n)
  have HT := hidden (through_any h hp first n to hf (by omega) hn2 (by omega) (by omega) hrd hr0 ht h0 hb0)
  have e1 : decide (1 ≤ n ∧ n ≤ 65536) = true := by simp; omega
  have HB := hidden h
  generalize thr M pg n (pgN pg n) (pgN pg to).toNat first [] [] rd = x at *
  have HLEN := hidden hlen
  have a1 : decide ((fr : Int) < 0) = false := by simp
  have a2 : decide ((to : Int) < (fr : Int)) = false := by simp; omega
  have a3 : decide (n < (to : Int)) = false := by simp; omega
  have a4 : ((fr : Int) == (to : Int)) = false := by rw [beq_eq_false_iff_ne]; omega
  have a5 : ¬ (to : Int) < (fr : Int) := by omega
  have a6 : ¬ n < (to : Int) := by omega
  have a7 : ¬ (fr : Int) = (to : Int) := by omega
  have a8 : ¬ fr = to := by omega
  clear h hp ht hlen
  go_enter Tryd.func25, Tryd.ntmps25
  go_wp2_with (first
    | (go_at_call 52; refine same_call HL.out ?_; rw [e1])
    | (go_at_call 55; refine HT.out.mono ?_; rintro e u ⟨ao, an, ac, bo, bn, bc, k, rfl, HQ⟩; refine Hid.out ?_))
  apply hidden
  clear HL HT
  by_cases hk : k = 0
  · subst hk
    obtain ⟨q1, q2, q3, q4, q5, q6, q7⟩ := HQ.out
    obtain ⟨l1, l2, l3⟩ := HLEN.out q1
    have hsl : Sl u bo bn bc x.2.2.1 := by
      obtain ⟨ao', c', e, hs, _⟩ := q4.sl l3 (by omega)
      injection e with e1 e2 e3
      subst e1 e3
      rw [← q5] at hs
      exact hs
    obtain ⟨bb, boff, rfl, _, _⟩ : ∃ b off, bo = some ⟨b, off, none⟩ ∧ b < u.heap.size ∧ ∀ i, i < bn → u.cell? ⟨b, off + i, none⟩ = some (.int .u8 (x.2.2.1.getD i 0)) := by
      rcases hsl.hat with h | h
      · omega
      · exact h
    have hcap := hsl.hcap
    have HSC := hidden (hsl.cut9 fr (to - fr) (by omega))
    have HQQ := hidden (And.intro q1 (And.intro q6 q7))
    have HCL := hidden (clone_any ⟨bb, boff + fr, none⟩ (to - fr) (bc - fr) _ u HSC.out)
    have z1 : (to : Int) ≤ (bc : Int) := by omega
    have z2 : to ≤ bc := by omega
    have z3 : (fr : Int) ≤ (to : Int) := by omega
    have z4 : fr ≤ to := by omega
    have z5 : ¬ bc = fr := by omega
    clear q1 q2 q3 q4 q5 q6 q7 l1 l2 l3 hsl HQ HLEN HSC
    go_wp2_with (first
      | (go_at_call 40; refine HCL.out.mono ?_; rintro e u2 ⟨g, c, rfl, HO, HB2⟩))
    go_ret2
    obtain ⟨q1, q6, q7⟩ := HQQ.out
    refine ⟨_, _, _, _, rfl, hidden ⟨q1, fun e => absurd rfl e, fun _ => ⟨HO.out.1.low q7.size, rfl⟩, q6.on HB2.out, q7.go (Cf.of_below HB2.out)⟩⟩
  · have hk2 : (k == 0) = false := by rw [beq_eq_false_iff_ne]; exact hk
    clear HLEN
    go_wp2
    go_ret2
    obtain ⟨q1, q2, q3, q4, q5, q6, q7⟩ := HQ.out
    exact ⟨_, _, _, _, rfl, hidden ⟨q1, fun _ => rfl, fun e => absurd e hk, q6, q7⟩⟩
end Go.Proofs.YtllcbilhpijjhaaDoor
