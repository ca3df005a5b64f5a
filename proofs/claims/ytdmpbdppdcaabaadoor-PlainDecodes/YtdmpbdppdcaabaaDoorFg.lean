/- plain.reader.text. -/
import Derived.Test.YtdmpbdppdcaabaaDoorFf
namespace Go.Proofs.YtdmpbdppdcaabaaDoor
open Go.RowKit

set_option maxRecDepth 100000 in
/-- A piece of bytes. -/
theorem Sl.piece {w : World} {g off n cap : Nat} {l : List Int} (h : Sl w (some ⟨g, off, none⟩) n cap l) (a k c : Nat) (hk : a + k ≤ n) (hc : k ≤ c) : Sl w (some ⟨g, off + a, none⟩) k c ((l.drop a).take k) := by
  have hl := h.hlen
  refine ⟨by rw [List.length_take, List.length_drop]; omega, hc, Nat.le_trans (by omega) h.hroom, (h.wf.drop a).take k, (by intro e; cases e), ?_⟩
  rcases h.hat with h0 | ⟨b, o, e, hlt, hcl⟩
  · exact .inl (by omega)
  · injection e with e
    injection e with e1 e2
    subst e1 e2
    refine .inr ⟨g, off + a, rfl, hlt, fun i hi => ?_⟩
    rw [Nat.add_assoc, hcl (a + i) (by omega)]
    simp [List.getD, hi]
set_option maxRecDepth 100000 in
theorem Sl.nil_any (w : World) (ao : Option Addr) (c : Nat) (h : ao = none → c = 0) : Sl w ao 0 c [] := ⟨rfl, Nat.zero_le _, by omega, Wf.nil, h, .inl rfl⟩

/-- What text comes to. -/
def TextTo (l : List Int) (w : World) (r : Nat) (ao : Option Addr) (n cap at_ : Nat) (en : Bool) (e : Ending) (w' : World) : Prop :=
  ∃ (ko : Option Addr) (kn kc p : Nat) (en' : Bool) (t : List Int), e = .returned (.slice ko kn kc) ∧ Hid (Rd w' r ao n cap p en') ∧ Hid (Cf (· = r) w w') ∧ Hid (Sl w' ko kn kc t ∧ (∀ q, ko = some q → ∀ o, ao = some o → q.block = o.block) ∧ p ≤ n ∧ ((pText (l.drop at_) = some (t, l.drop p) ∧ en' = en) ∨ (pText (l.drop at_) = none ∧ en' = true)))

set_option maxRecDepth 100000 in
set_option maxHeartbeats 1000000 in
theorem text_any (l : List Int) (w : World) (r g off n cap at_ : Nat) (en : Bool) (hr : Rd w r (some ⟨g, off, none⟩) n cap at_ en) (hs : Sl w (some ⟨g, off, none⟩) n cap l) (ha : at_ ≤ n) :
    Calls Tryd.prog 66 #[.pointer (some ⟨r, 0, none⟩)] w fun e w' => TextTo l w r (some ⟨g, off, none⟩) n cap at_ en e w' := by
  have HN := hidden (number_any 2 l w r (some ⟨g, off, none⟩) n cap at_ en (.inr (.inl rfl)) hr hs ha)
  have HS := hidden hs
  have HAP := hidden (hs.apart hr)
  have hn := hs.hroom
  have hcap := hs.hcap
  clear hr hs
  go_enter Tryd.func66, Tryd.ntmps66
  go_wp2_with (first | (go_at_call 67; refine HN.out.mono ?_; rintro e w1 ⟨v, p, en', rfl, HR, HC, HV⟩; refine Hid.out ?_))
  apply hidden
  clear HN
  obtain ⟨⟨hv0, hv1⟩, hp, hcase⟩ := HV.out
  clear HV
  have HCASE := hidden hcase
  clear hcase
  obtain ⟨m, rfl⟩ := Int.eq_ofNat_of_zero_le hv0
  have hm : m < 65536 := by omega
  clear hv0 hv1
  have HS1 : Hid (Sl w1 (some ⟨g, off, none⟩) n cap l) := hidden (HS.out.cf HC.out HAP.out)
  have c0 := HR.out.c0
  have c1 := HR.out.c1
  have c2 := HR.out.c2
  have f1 := HR.out.free 1
  have f2 := HR.out.free 2
  have HLEN := hidden HS.out.hlen
  by_cases h : (n : Int) - (p : Int) < (m : Int)
  · have d1 : decide ((n : Int) - (p : Int) < (m : Int)) = true := decide_eq_true h
    have HQ : Hid (pText (l.drop at_) = none) := by
      rcases HCASE.out with ⟨h1, h2⟩ | ⟨h1, h2, h3, h4⟩
      · refine hidden ?_
        unfold pText
        rw [h1]
        simp only
        rw [if_pos (by rw [List.length_drop, HLEN.out]; omega)]
      · omega
    go_wp2_with fail
    go_quiet (fail)
    go_wp2
    go_ret
    exact ⟨none, 0, 0, p, true, [], rfl, hidden (Rd.set2 (HR.out.drewN _) true), hidden ((HC.out.go (Cf.drew _ _ _)).go (Cf.set _ _ _ _)), hidden ⟨Sl.nil_any _ _ _ (fun _ => rfl), (by intro q hq; cases hq), hp, .inr ⟨HQ.out, rfl⟩⟩⟩
  · have d1 : decide ((n : Int) - (p : Int) < (m : Int)) = false := decide_eq_false h
    have HCASE2 : Hid (∃ tx, tx = (l.drop p).take m ∧ ((pText (l.drop at_) = some (tx, l.drop (p + m)) ∧ en' = en) ∨ (pText (l.drop at_) = none ∧ en' = true))) := by
      refine hidden ⟨(l.drop p).take m, rfl, ?_⟩
      rcases HCASE.out with ⟨h1, h2⟩ | ⟨h1, h2, h3, h4⟩
      · left
        refine ⟨?_, h2⟩
        unfold pText
        rw [h1]
        simp only
        rw [if_neg (by rw [List.length_drop, HLEN.out]; omega), Int.toNat_natCast, List.drop_drop]
      · right
        refine ⟨?_, h2⟩
        unfold pText
        rw [h1]
    have HAP2 : Hid (m = 0 ∨ ∀ q : Addr, some (⟨g, off + p, none⟩ : Addr) = some q → ¬ q.block = r) := by
      refine hidden ?_
      rcases HAP.out with h0 | h0
      · exact .inl (by omega)
      · exact .inr fun q hq => by injection hq with hq; subst hq; exact h0 ⟨g, off, none⟩ rfl
    by_cases hm0 : m = 0
    · subst hm0
      have p2 : p ≤ cap := by omega
      have p3 : (p : Int) ≤ (cap : Int) := by omega
      have HS2 : ∀ q, Hid (Rd ((w1.drewN q).setCell ⟨r, 1, none⟩ (.int .i64 (p : Int))) r (some ⟨g, off, none⟩) n cap p en') := fun q => hidden (Rd.set1 (HR.out.drewN q) p)
      have x0 := fun q => (HS2 q).out.c0
      have x1 := fun q => (HS2 q).out.c1
      have HCF : Hid (∀ q q' : Nat, Cf (· = r) w (((w1.drewN q).setCell ⟨r, 1, none⟩ (.int .i64 (p : Int))).drewN q')) := hidden fun q q' => ((HC.out.go (Cf.drew _ _ _)).go (Cf.set _ _ _ _)).go (Cf.drew _ _ _)
      clear h HAP2 HCASE
      go_wp2_with fail
      go_quiet (fail)
      go_wp2_with fail
      go_quiet (fail)
      go_wp2
      go_ret
      obtain ⟨tx, htx, hcx⟩ := HCASE2.out
      rw [List.take_zero] at htx
      subst htx
      exact ⟨_, _, _, p, en', [], rfl, hidden ((HS2 _).out.drewN _), hidden (HCF.out _ _), hidden ⟨Sl.nil_any _ _ _ (by intro h; cases h), (fun q hq o ho => by injection hq with hq; injection ho with ho; subst hq ho; rfl), hp, hcx⟩⟩
    · obtain ⟨t, ht⟩ : ∃ t, p + m = t := ⟨_, rfl⟩
      have htI : (p : Int) + (m : Int) = (t : Int) := by omega
      have t1 : p ≤ t := by omega
      have t2 : t ≤ n := by omega
      have t3 : t ≤ cap := by omega
      have t4 : (p : Int) ≤ (t : Int) := by omega
      have t5 : (t : Int) ≤ (cap : Int) := by omega
      have t6 : t - p = m := by omega
      have t7 : ¬ t = p := by omega
      have HS2 : ∀ q, Hid (Rd ((w1.drewN q).setCell ⟨r, 1, none⟩ (.int .i64 (t : Int))) r (some ⟨g, off, none⟩) n cap t en') := fun q => hidden (Rd.set1 (HR.out.drewN q) t)
      have x0 := fun q => (HS2 q).out.c0
      have x1 := fun q => (HS2 q).out.c1
      have HCF : Hid (∀ q q' : Nat, Cf (· = r) w (((w1.drewN q).setCell ⟨r, 1, none⟩ (.int .i64 (t : Int))).drewN q')) := hidden fun q q' => ((HC.out.go (Cf.drew _ _ _)).go (Cf.set _ _ _ _)).go (Cf.drew _ _ _)
      have HCF1 : Hid (∀ q q' : Nat, Cf (· = r) w1 (((w1.drewN q).setCell ⟨r, 1, none⟩ (.int .i64 (t : Int))).drewN q')) := hidden fun q q' => ((Cf.drew _ _ _).go (Cf.set _ _ _ _)).go (Cf.drew _ _ _)
      have HSX := hidden (HS1.out.piece p m m (by omega) (Nat.le_refl _))
      rw [ht] at HCASE2
      clear h HCASE ht
      go_wp2_with fail
      go_quiet (fail)
      go_wp2_with fail
      go_quiet (fail)
      go_wp2
      go_ret
      obtain ⟨tx, htx, hcx⟩ := HCASE2.out
      subst htx
      exact ⟨_, _, _, t, en', _, rfl, hidden ((HS2 _).out.drewN _), hidden (HCF.out _ _), hidden ⟨HSX.out.cf (HCF1.out _ _) HAP2.out, (fun q hq o ho => by injection hq with hq; injection ho with ho; subst hq ho; rfl), t2, hcx⟩⟩
end Go.Proofs.YtdmpbdppdcaabaaDoor
