/- packed.reader.text and kind. -/
import Derived.Test.YtbefpojdopfeeaaGreatDoorJ05
namespace Go.Proofs.YtbefpojdopfeeaaGreatDoor
open Go.RowKit

/-- What text comes to. -/
def UTextTo (l : List Int) (w : World) (r : Nat) (ao : Option Addr) (n cap at_ : Nat) (en : Bool) (e : Ending) (w' : World) : Prop :=
  ∃ (ko : Option Addr) (kn kc p : Nat) (en' : Bool) (t : List Int), e = .returned (.slice ko kn kc) ∧ Hid (Rdq w' r ao n cap p en') ∧ Hid (Cf (· = r) w w') ∧ Hid (Sl w' ko kn kc t ∧ (∀ q, ko = some q → ∀ o, ao = some o → q.block = o.block) ∧ (p ≤ n ∧ kn ≤ n) ∧ ((pT (l.drop at_) = some (t, l.drop p) ∧ en' = en) ∨ (pT (l.drop at_) = none ∧ en' = true)))
set_option maxRecDepth 100000 in
set_option maxHeartbeats 1000000 in
theorem utext_any (l : List Int) (w : World) (r g off n cap at_ : Nat) (en : Bool) (hr : Rdq w r (some ⟨g, off, none⟩) n cap at_ en) (hs : Sl w (some ⟨g, off, none⟩) n cap l) (ha : at_ ≤ n) :
    Calls Tryz.prog 130 #[.pointer (some ⟨r, 0, none⟩)] w fun e w' => UTextTo l w r (some ⟨g, off, none⟩) n cap at_ en e w' := by
  have HN := hidden (unumber_any l w r (some ⟨g, off, none⟩) n cap at_ en hr hs ha)
  have HS := hidden hs
  have HAP := hidden (hs.apart hr)
  have hn := hs.hroom
  have hcap := hs.hcap
  clear hr hs
  go_enter Tryz.func130, Tryz.ntmps130
  go_wp2_with (first | (go_at_call 131; refine HN.out.mono ?_; rintro e w1 ⟨v, p, en', rfl, HR, HC, HV⟩; refine Hid.out ?_))
  apply hidden
  clear HN
  obtain ⟨⟨hv0, hv1⟩, hp, hcase⟩ := HV.out
  clear HV
  have HCASE := hidden hcase
  clear hcase
  obtain ⟨m, rfl⟩ := Int.eq_ofNat_of_zero_le hv0
  have hm : (m : Int) < 18446744073709551616 := by omega
  clear hv0 hv1
  have HS1 : Hid (Sl w1 (some ⟨g, off, none⟩) n cap l) := hidden (HS.out.cf HC.out HAP.out)
  have c0 := HR.out.c0
  have c1 := HR.out.c1
  have c2 := HR.out.c2
  have f1 := HR.out.free 1
  have f2 := HR.out.free 2
  have HLEN := hidden HS.out.hlen
  by_cases h : (n : Int) - (p : Int) < (m : Int)
  · have d1 : decide ((n : Int) - (p : Int) < (m : Int)) = true := decide_eq_true h
    have HQ : Hid (pT (l.drop at_) = none) := by
      rcases HCASE.out with ⟨h1, h2⟩ | ⟨h1, h2, h3, h4⟩
      · refine hidden ?_
        unfold pT
        rw [h1]
        simp only
        rw [if_pos (by rw [List.length_drop, HLEN.out]; omega)]
      · omega
    go_wp2_with fail
    go_quiet (fail)
    go_wp2
    go_ret
    exact ⟨none, 0, 0, p, true, [], rfl, hidden (Rdq.set2 (HR.out.drewN _) true), hidden ((HC.out.go (Cf.drew _ _ _)).go (Cf.set _ _ _ _)), hidden ⟨Sl.nil_any _ _ _ (fun _ => rfl), (by intro q hq; cases hq), ⟨hp, Nat.zero_le _⟩, .inr ⟨HQ.out, rfl⟩⟩⟩
  · have d1 : decide ((n : Int) - (p : Int) < (m : Int)) = false := decide_eq_false h
    have HCASE2 : Hid (∃ tx, tx = (l.drop p).take m ∧ ((pT (l.drop at_) = some (tx, l.drop (p + m)) ∧ en' = en) ∨ (pT (l.drop at_) = none ∧ en' = true))) := by
      refine hidden ⟨(l.drop p).take m, rfl, ?_⟩
      rcases HCASE.out with ⟨h1, h2⟩ | ⟨h1, h2, h3, h4⟩
      · left
        refine ⟨?_, h2⟩
        unfold pT
        rw [h1]
        simp only
        rw [if_neg (by rw [List.length_drop, HLEN.out]; omega), Int.toNat_natCast, List.drop_drop]
      · right
        refine ⟨?_, h2⟩
        unfold pT
        rw [h1]
    have HAP2 : Hid (m = 0 ∨ ∀ q : Addr, some (⟨g, off + p, none⟩ : Addr) = some q → ¬ q.block = r) := by
      refine hidden ?_
      rcases HAP.out with h0 | h0
      · exact .inl (by omega)
      · exact .inr fun q hq => by injection hq with hq; subst hq; exact h0 ⟨g, off, none⟩ rfl
    by_cases hm0 : m = 0
    · subst hm0
      have p2 : p ≤ cap := by omega
      have p3 : (p : Int) ≤ (cap : Int) := by omega
      have HS2 : ∀ q, Hid (Rdq ((w1.drewN q).setCell ⟨r, 1, none⟩ (.int .i64 (p : Int))) r (some ⟨g, off, none⟩) n cap p en') := fun q => hidden (Rdq.set1 (HR.out.drewN q) p)
      have x0 := fun q => (HS2 q).out.c0
      have x1 := fun q => (HS2 q).out.c1
      have HCF : Hid (∀ q q' : Nat, Cf (· = r) w (((w1.drewN q).setCell ⟨r, 1, none⟩ (.int .i64 (p : Int))).drewN q')) := hidden fun q q' => ((HC.out.go (Cf.drew _ _ _)).go (Cf.set _ _ _ _)).go (Cf.drew _ _ _)
      clear h HAP2 HCASE
      go_wp2_with fail
      go_quiet (fail)
      go_wp2_with fail
      go_quiet (fail)
      go_wp2
      go_ret
      obtain ⟨tx, htx, hcx⟩ := HCASE2.out
      rw [List.take_zero] at htx
      subst htx
      exact ⟨_, _, _, p, en', [], rfl, hidden ((HS2 _).out.drewN _), hidden (HCF.out _ _), hidden ⟨Sl.nil_any _ _ _ (by intro h; cases h), (fun q hq o ho => by injection hq with hq; injection ho with ho; subst hq ho; rfl), ⟨hp, Nat.zero_le _⟩, hcx⟩⟩
    · obtain ⟨t, ht⟩ : ∃ t, p + m = t := ⟨_, rfl⟩
      have htI : (p : Int) + (m : Int) = (t : Int) := by omega
      have t1 : p ≤ t := by omega
      have t2 : t ≤ n := by omega
      have t3 : t ≤ cap := by omega
      have t4 : (p : Int) ≤ (t : Int) := by omega
      have t5 : (t : Int) ≤ (cap : Int) := by omega
      have t6 : t - p = m := by omega
      have t7 : ¬ t = p := by omega
      have HS2 : ∀ q, Hid (Rdq ((w1.drewN q).setCell ⟨r, 1, none⟩ (.int .i64 (t : Int))) r (some ⟨g, off, none⟩) n cap t en') := fun q => hidden (Rdq.set1 (HR.out.drewN q) t)
      have x0 := fun q => (HS2 q).out.c0
      have x1 := fun q => (HS2 q).out.c1
      have HCF : Hid (∀ q q' : Nat, Cf (· = r) w (((w1.drewN q).setCell ⟨r, 1, none⟩ (.int .i64 (t : Int))).drewN q')) := hidden fun q q' => ((HC.out.go (Cf.drew _ _ _)).go (Cf.set _ _ _ _)).go (Cf.drew _ _ _)
      have HCF1 : Hid (∀ q q' : Nat, Cf (· = r) w1 (((w1.drewN q).setCell ⟨r, 1, none⟩ (.int .i64 (t : Int))).drewN q')) := hidden fun q q' => ((Cf.drew _ _ _).go (Cf.set _ _ _ _)).go (Cf.drew _ _ _)
      have HSX := hidden (HS1.out.piece p m m (by omega) (Nat.le_refl _))
      rw [ht] at HCASE2
      clear h HCASE ht
      go_wp2_with fail
      go_quiet (fail)
      go_wp2_with fail
      go_quiet (fail)
      go_wp2
      go_ret
      obtain ⟨tx, htx, hcx⟩ := HCASE2.out
      subst htx
      exact ⟨_, _, _, t, en', _, rfl, hidden ((HS2 _).out.drewN _), hidden (HCF.out _ _), hidden ⟨HSX.out.cf (HCF1.out _ _) HAP2.out, (fun q hq o ho => by injection hq with hq; injection ho with ho; subst hq ho; rfl), ⟨t2, by omega⟩, hcx⟩⟩
/-- What kind comes to. -/
def KndTo (l : List Int) (w : World) (r : Nat) (ao : Option Addr) (n cap at_ : Nat) (en : Bool) (e : Ending) (w' : World) : Prop :=
  ∃ (v : Int) (p : Nat) (en' : Bool), e = .returned (.int .i64 v) ∧ Hid (Rdq w' r ao n cap p en') ∧ Hid (Cf (· = r) w w') ∧ Hid ((0 ≤ v ∧ v < 256) ∧ p ≤ n ∧ ((pNum 1 (l.drop at_) = some (v, l.drop p) ∧ en' = en) ∨ (pNum 1 (l.drop at_) = none ∧ en' = true ∧ v = 0 ∧ p = at_)))
set_option maxRecDepth 100000 in
set_option maxHeartbeats 1000000 in
theorem kind_any (l : List Int) (w : World) (r : Nat) (ao : Option Addr) (n cap at_ : Nat) (en : Bool) (hr : Rdq w r ao n cap at_ en) (hs : Sl w ao n cap l) (ha : at_ ≤ n) :
    Calls Tryz.prog 129 #[.pointer (some ⟨r, 0, none⟩)] w fun e w' => KndTo l w r ao n cap at_ en e w' := by
  have c0 := hr.c0
  have c1 := hr.c1
  have c2 := hr.c2
  have f1 := hr.free 1
  have f2 := hr.free 2
  have hn := hs.hroom
  have HR := hidden hr
  have hlen := hs.hlen
  by_cases h : 1 ≤ n - at_
  · have HF : Hid (∀ q, Calls Tryz.prog 149 #[.slice ao n cap, .int .i64 (at_ : Int), .int .i64 1] (w.drewN q) fun e w' => e = .returned (.tuple #[.int .u64 (rdB ((l.drop at_).take 1)), .int .i64 0]) ∧ w' = w.drewN q) :=
      hidden fun q => by simpa using readFixed_ok ao n cap l (at_ : Int) 1 (w.drewN q) (hs.drewN q) (by omega) (by omega) (by omega) (by omega)
    have hp : pNum 1 (l.drop at_) = some (rdB ((l.drop at_).take 1), l.drop (at_ + 1)) := by
      unfold pNum
      rw [if_neg (by rw [List.length_drop]; omega), List.drop_drop]
    have hb := rdB_bound ((l.drop at_).take 1) ((hs.wf.drop at_).take 1)
    rw [show ((l.drop at_).take 1).length = 1 from by rw [List.length_take, List.length_drop]; omega] at hb
    have HB := hidden hb
    have hb8 : rdB ((l.drop at_).take 1) < 256 := by omega
    generalize rdB ((l.drop at_).take 1) = v at *
    have hv0 := hb.1
    have HP := hidden hp
    clear hp hb hs
    have hw : wrap64 v = v := by simp [wrap64]; omega
    have HS : ∀ q, Hid (Rdq ((w.drewN q).setCell ⟨r, 1, none⟩ (.int .i64 ((at_ + 1 : Nat) : Int))) r ao n cap (at_ + 1) en) := fun q => hidden (Rdq.set1 (HR.out.drewN q) (at_ + 1))
    go_enter Tryz.func129, Tryz.ntmps129
    go_wp2_with fail
    go_quiet (first | (go_at_call 149; exact Calls.quiet_of_same (HF.out _)))
    go_wp2
    go_ret
    exact ⟨v, at_ + 1, en, rfl, by simpa using HS _, hidden ((Cf.drew _ _ _).go (Cf.set _ _ _ _)), hidden ⟨⟨hv0, hb8⟩, by omega, .inl ⟨HP.out, rfl⟩⟩⟩
  · have HF : Hid (∀ q, Calls Tryz.prog 149 #[.slice ao n cap, .int .i64 (at_ : Int), .int .i64 1] (w.drewN q) fun e w' => e = .returned (.tuple #[.int .u64 0, .int .i64 10]) ∧ w' = w.drewN q) :=
      hidden fun q => by simpa using readFixed_short ao n cap (at_ : Int) 1 (w.drewN q) (by omega) (by omega) (by omega) (by omega) (by omega)
    have hp : pNum 1 (l.drop at_) = none := by
      unfold pNum
      rw [if_pos (by rw [List.length_drop]; omega)]
    have HP := hidden hp
    clear hp hs
    go_enter Tryz.func129, Tryz.ntmps129
    go_wp2_with fail
    go_quiet (first | (go_at_call 149; exact Calls.quiet_of_same (HF.out _)))
    go_wp2
    go_ret
    exact ⟨0, at_, true, rfl, hidden (Rdq.set2 (HR.out.drewN _) true), hidden ((Cf.drew _ _ _).go (Cf.set _ _ _ _)), hidden ⟨⟨by omega, by omega⟩, ha, .inr ⟨HP.out, rfl, rfl, rfl⟩⟩⟩
end Go.Proofs.YtbefpojdopfeeaaGreatDoor
