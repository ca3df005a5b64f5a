import Derived.Test.YtofafbmpbkjhnaaGreatDoorJ20
import Derived.Test.YtofafbmpbkjhnaaGreatDoorJ13
import Derived.Test.YtofafbmpbkjhnaaGreatDoorJ21
import Derived.Laws.AppendOwnNone
import Derived.Maps.AppendAt
import Derived.Deep.RegionLaw
import Derived.Laws.OwnMore
import Derived.Deep.RegionWith
import Derived.Laws.MakeOwn
namespace Go.Proofs.YtofafbmpbkjhnaaGreatDoor
set_option maxRecDepth 100000
set_option maxHeartbeats 4000000
open Go.RowKit
def Rdq (w : World) (r : Nat) (ao : Option Addr) (n cap at_ : Nat) (en : Bool) : Prop := w.heap[r]? = some (.cells #[.slice ao n cap, .int .i64 (at_ : Int), .bool en] 194 (0, 0))
theorem Rdq.c0 {w : World} {r : Nat} {ao : Option Addr} {n cap at_ : Nat} {en : Bool} (h : Rdq w r ao n cap at_ en) : w.cell? ⟨r, 0, none⟩ = some (.slice ao n cap) := by rw [cell_of_row _ _ 0 _ _ _ h]; rfl
theorem Rdq.c1 {w : World} {r : Nat} {ao : Option Addr} {n cap at_ : Nat} {en : Bool} (h : Rdq w r ao n cap at_ en) : w.cell? ⟨r, 1, none⟩ = some (.int .i64 (at_ : Int)) := by rw [cell_of_row _ _ 1 _ _ _ h]; rfl
theorem Rdq.c2 {w : World} {r : Nat} {ao : Option Addr} {n cap at_ : Nat} {en : Bool} (h : Rdq w r ao n cap at_ en) : w.cell? ⟨r, 2, none⟩ = some (.bool en) := by rw [cell_of_row _ _ 2 _ _ _ h]; rfl
theorem Rdq.free {w : World} {r : Nat} {ao : Option Addr} {n cap at_ : Nat} {en : Bool} (h : Rdq w r ao n cap at_ en) (k : Nat) : w.frozen? ⟨r, k, none⟩ = false := by
 unfold Rdq at h
 simp [World.frozen?, h]
theorem Rdq.drewN {w : World} {r : Nat} {ao : Option Addr} {n cap at_ : Nat} {en : Bool} (h : Rdq w r ao n cap at_ en) (q : Nat) : Rdq (w.drewN q) r ao n cap at_ en := h
theorem Rdq.lt {w : World} {r : Nat} {ao : Option Addr} {n cap at_ : Nat} {en : Bool} (h : Rdq w r ao n cap at_ en) : r < w.heap.size := zah h
theorem Rdq.set1 {w : World} {r : Nat} {ao : Option Addr} {n cap at_ : Nat} {en : Bool} (h : Rdq w r ao n cap at_ en) (x : Nat) : Rdq (w.setCell ⟨r, 1, none⟩ (.int .i64 (x : Int))) r ao n cap x en := by
 unfold Rdq at *
 have := zam (w := w) (a := r) (cs := [.slice ao n cap, .int .i64 (at_ : Int), .bool en]) (i := 1) (u := .int .i64 (x : Int)) h
 simpa using this
theorem Rdq.set2 {w : World} {r : Nat} {ao : Option Addr} {n cap at_ : Nat} {en : Bool} (h : Rdq w r ao n cap at_ en) (x : Bool) : Rdq (w.setCell ⟨r, 2, none⟩ (.bool x)) r ao n cap at_ x := by
 unfold Rdq at *
 have := zam (w := w) (a := r) (cs := [.slice ao n cap, .int .i64 (at_ : Int), .bool en]) (i := 2) (u := .bool x) h
 simpa using this
theorem Sl.apartq {w : World} {ao : Option Addr} {n cap : Nat} {l : List Int} (h : Sl w ao n cap l) {r : Nat} {a : Option Addr} {b c d : Nat} {en : Bool} (hr : Rdq w r a b c d en) : n = 0 ∨ ∀ p, ao = some p → p.block ≠ r := by
 rcases h.hat with h0 | ⟨g, off, rfl, hg, hc⟩
 ·exact .inl h0
 ·rcases Nat.eq_zero_or_pos n with h0 | h0
  ·exact .inl h0
  ·right
   rintro p hp rfl
   injection hp with hp
   subst hp
   have h1 := hc 0 h0
   rw [cell_of_row _ _ _ _ _ _ hr] at h1
   rcases Nat.lt_or_ge (off + 0) 3 with h3 | h3
   ·have h4 : off + 0 = 0 ∨ off + 0 = 1 ∨ off + 0 = 2 := by omega
    rcases h4 with h4 | h4 | h4 <;> (rw [h4] at h1; simp at h1)
   ·rw [Array.getElem?_eq_none (by simpa using h3)] at h1
    cases h1
def UNumTo (l : List Int) (w : World) (r : Nat) (ao : Option Addr) (n cap at_ : Nat) (en : Bool) (e : Ending) (w' : World) : Prop :=
 ∃ (v : Int) (p : Nat) (en' : Bool), e = .returned (.int .u64 v) ∧ Hid (Rdq w' r ao n cap p en') ∧ Hid (Cf (· = r) w w') ∧ Hid ((0 ≤ v ∧ v < 18446744073709551616) ∧ p ≤ n ∧ ((pU (l.drop at_) = some (v, l.drop p) ∧ en' = en) ∨ (pU (l.drop at_) = none ∧ en' = true ∧ v = 0 ∧ p = at_)))
theorem rU_shift (l : List Int) : ∀ (p : Int) (i : Nat) (n : Int), (rU p l i n).1 = (rU 0 l i n).1 ∧ (rU p l i n).2.2 = (rU 0 l i n).2.2 ∧ ((rU 0 l i n).2.2 = 0 → (rU p l i n).2.1 = p + (rU 0 l i n).2.1) := by
 induction l with
 | nil => intro p i n; simp [rU]
 | cons c r ih =>
  intro p i n
  rw [rU, rU]
  split
  ·simp
  ·split
   ·exact ih p (i + 1) _
   ·split
    ·simp
    ·refine ⟨rfl, rfl, fun _ => ?_⟩
     simp only
     omega
theorem unumber_any (l : List Int) (w : World) (r : Nat) (ao : Option Addr) (n cap at_ : Nat) (en : Bool) (hr : Rdq w r ao n cap at_ en) (hs : Sl w ao n cap l) (ha : at_ ≤ n) :
  Calls Tryz.prog 230 #[.pointer (some ⟨r, 0, none⟩)] w fun e w' => UNumTo l w r ao n cap at_ en e w' := by
 have c0 := hr.c0
 have c1 := hr.c1
 have c2 := hr.c2
 have f1 := hr.free 1
 have f2 := hr.free 2
 have hn := hs.hroom
 have HR := zaa hr
 have hlen := hs.hlen
 have HF : Hid (∀ q, Calls Tryz.prog 236 #[.slice ao n cap, .int .i64 (at_ : Int)] (w.drewN q) fun e w' => e = .returned (.tuple #[.int .u64 (rU (at_ : Int) (l.drop at_) 0 0).1, .int .i64 (rU (at_ : Int) (l.drop at_) 0 0).2.1, .int .i64 (rU (at_ : Int) (l.drop at_) 0 0).2.2]) ∧ w' = w.drewN q) :=
  zaa fun q => by simpa using readUint_any ao n cap l (at_ : Int) (w.drewN q) (hs.drewN q) (by omega) (by omega)
 obtain ⟨s1, s2, s3⟩ := rU_shift (l.drop at_) (at_ : Int) 0 0
 have hsp := rU_spec (l.drop at_) 0 0 0 (hs.wf.drop at_) (by omega) (by omega) (by omega)
 rw [s1, s2] at HF
 by_cases h : (rU 0 (l.drop at_) 0 0).2.2 = 0
 ·obtain ⟨k, M, k1, k2, k3, k4, k5, k6⟩ : ∃ (k : Nat) (M : Int), 1 ≤ k ∧ k ≤ (l.drop at_).length ∧ (rU 0 (l.drop at_) 0 0).2.1 = k ∧ 0 ≤ M ∧ (rU 0 (l.drop at_) 0 0).1 = M ∧ (rU 0 (l.drop at_) 0 0).1 < 18446744073709551616 := by
   rcases hsp with ⟨g, _⟩ | ⟨_, k, M, g1, g2, g3, g4, g5, g6, _, _⟩
   ·exact absurd h g
   ·exact ⟨k, M, g1, g2, by rw [g3]; simp, g4, by rw [g5]; simp, g6⟩
  have e3 := s3 h
  rw [k3] at e3
  rw [e3, h, k5] at HF
  rw [k5] at k6
  have HP : Hid (pU (l.drop at_) = some (M, l.drop (at_ + k))) := zaa (by
   unfold pU
   rw [if_pos h, k5, k3, Int.toNat_natCast, List.drop_drop])
  rw [zK, hlen] at k2
  have bM : M ≤ 18446744073709551615 := by omega
  have HS : ∀ q, Hid (Rdq ((w.drewN q).setCell ⟨r, 1, none⟩ (.int .i64 ((at_ + k : Nat) : Int))) r ao n cap (at_ + k) en) := fun q => zaa (Rdq.set1 (HR.out.drewN q) (at_ + k))
  clear hs s1 s2 s3 hsp h k3 k5 e3
  go_enter Tryz.func230, Tryz.ntmps230
  go_wp2_with fail
  go_quiet (first | (go_at_call 236; exact Calls.quiet_of_same (HF.out _)))
  go_wp2
  go_ret
  exact ⟨M, at_ + k, en, rfl, by simpa using HS _, zaa ((Cf.drew _ _ _).go (Cf.set _ _ _ _)), zaa ⟨⟨k4, k6⟩, by omega, .inl ⟨HP.out, rfl⟩⟩⟩
 ·have HP : Hid (pU (l.drop at_) = none) := zaa (by unfold pU; rw [if_neg h])
  have hz : (rU 0 (l.drop at_) 0 0).1 = 0 := by
   rcases hsp with ⟨_, g, _⟩ | ⟨g, _⟩
   ·exact g
   ·exact absurd g h
  have d1 : ((rU 0 (l.drop at_) 0 0).2.2 == 0) = false := by simpa using h
  generalize (rU 0 (l.drop at_) 0 0).2.2 = er at *
  generalize (rU (at_ : Int) (l.drop at_) 0 0).2.1 = pe at *
  rw [hz] at HF
  clear hs s1 s2 s3 hsp hz
  go_enter Tryz.func230, Tryz.ntmps230
  go_wp2_with fail
  go_quiet (first | (go_at_call 236; exact Calls.quiet_of_same (HF.out _)))
  go_wp2
  go_ret
  exact ⟨0, at_, true, rfl, zaa (Rdq.set2 (HR.out.drewN _) true), zaa ((Cf.drew _ _ _).go (Cf.set _ _ _ _)), zaa ⟨⟨by omega, by omega⟩, ha, .inr ⟨HP.out, rfl, rfl, rfl⟩⟩⟩
def UTextTo (l : List Int) (w : World) (r : Nat) (ao : Option Addr) (n cap at_ : Nat) (en : Bool) (e : Ending) (w' : World) : Prop :=
 ∃ (ko : Option Addr) (kn kc p : Nat) (en' : Bool) (t : List Int), e = .returned (.slice ko kn kc) ∧ Hid (Rdq w' r ao n cap p en') ∧ Hid (Cf (· = r) w w') ∧ Hid (Sl w' ko kn kc t ∧ (∀ q, ko = some q → ∀ o, ao = some o → q.block = o.block) ∧ (p ≤ n ∧ kn ≤ n) ∧ ((pT (l.drop at_) = some (t, l.drop p) ∧ en' = en) ∨ (pT (l.drop at_) = none ∧ en' = true)))
theorem utext_any (l : List Int) (w : World) (r g off n cap at_ : Nat) (en : Bool) (hr : Rdq w r (some ⟨g, off, none⟩) n cap at_ en) (hs : Sl w (some ⟨g, off, none⟩) n cap l) (ha : at_ ≤ n) :
  Calls Tryz.prog 229 #[.pointer (some ⟨r, 0, none⟩)] w fun e w' => UTextTo l w r (some ⟨g, off, none⟩) n cap at_ en e w' := by
 have HN := zaa (unumber_any l w r (some ⟨g, off, none⟩) n cap at_ en hr hs ha)
 have HS := zaa hs
 have HAP := zaa (hs.apartq hr)
 have hn := hs.hroom
 have hcap := hs.hcap
 clear hr hs
 go_enter Tryz.func229, Tryz.ntmps229
 go_wp2_with (go_at_call 230; refine HN.out.mono ?_; rintro e w1 ⟨v, p, en', rfl, HR, HC, HV⟩; refine Hid.out ?_)
 apply zaa
 clear HN
 obtain ⟨⟨hv0, hv1⟩, hp, hcase⟩ := HV.out
 clear HV
 have HCASE := zaa hcase
 clear hcase
 obtain ⟨m, rfl⟩ := Int.eq_ofNat_of_zero_le hv0
 have hm : (m : Int) < 18446744073709551616 := by omega
 clear hv0 hv1
 have HS1 : Hid (Sl w1 (some ⟨g, off, none⟩) n cap l) := zaa (HS.out.cf HC.out HAP.out)
 have c0 := HR.out.c0
 have c1 := HR.out.c1
 have c2 := HR.out.c2
 have f1 := HR.out.free 1
 have f2 := HR.out.free 2
 have HLEN := zaa HS.out.hlen
 by_cases h : (n : Int) - (p : Int) < (m : Int)
 ·have d1 : decide ((n : Int) - (p : Int) < (m : Int)) = true := decide_eq_true h
  have HQ : Hid (pT (l.drop at_) = none) := by
   rcases HCASE.out with ⟨h1, h2⟩ | ⟨h1, h2, h3, h4⟩
   ·refine zaa ?_
    unfold pT
    rw [h1]
    simp only
    rw [if_pos (by rw [zK, HLEN.out]; omega)]
   ·omega
  go_wp2_with fail
  go_quiet (fail)
  go_wp2
  go_ret
  exact ⟨none, 0, 0, p, true, [], rfl, zaa (Rdq.set2 (HR.out.drewN _) true), zaa ((HC.out.go (Cf.drew _ _ _)).go (Cf.set _ _ _ _)), zaa ⟨Sl.nil_any _ _ _ (fun _ => rfl), (by intro q hq; cases hq), ⟨hp, Nat.zero_le _⟩, .inr ⟨HQ.out, rfl⟩⟩⟩
 ·have d1 : decide ((n : Int) - (p : Int) < (m : Int)) = false := decide_eq_false h
  have HCASE2 : Hid (∃ tx, tx = (l.drop p).take m ∧ ((pT (l.drop at_) = some (tx, l.drop (p + m)) ∧ en' = en) ∨ (pT (l.drop at_) = none ∧ en' = true))) := by
   refine zaa ⟨(l.drop p).take m, rfl, ?_⟩
   rcases HCASE.out with ⟨h1, h2⟩ | ⟨h1, h2, h3, h4⟩
   ·left
    refine ⟨?_, h2⟩
    unfold pT
    rw [h1]
    simp only
    rw [if_neg (by rw [zK, HLEN.out]; omega), Int.toNat_natCast, List.drop_drop]
   ·right
    refine ⟨?_, h2⟩
    unfold pT
    rw [h1]
  have HAP2 : Hid (m = 0 ∨ ∀ q : Addr, some (⟨g, off + p, none⟩ : Addr) = some q → ¬ q.block = r) := by
   refine zaa ?_
   rcases HAP.out with h0 | h0
   ·exact .inl (by omega)
   ·exact .inr fun q hq => by injection hq with hq; subst hq; exact h0 ⟨g, off, none⟩ rfl
  by_cases hm0 : m = 0
  ·subst hm0
   have p2 : p ≤ cap := by omega
   have p3 : (p : Int) ≤ (cap : Int) := by omega
   have HS2 : ∀ q, Hid (Rdq ((w1.drewN q).setCell ⟨r, 1, none⟩ (.int .i64 (p : Int))) r (some ⟨g, off, none⟩) n cap p en') := fun q => zaa (Rdq.set1 (HR.out.drewN q) p)
   have x0 := fun q => (HS2 q).out.c0
   have x1 := fun q => (HS2 q).out.c1
   have HCF : Hid (∀ q q' : Nat, Cf (· = r) w (((w1.drewN q).setCell ⟨r, 1, none⟩ (.int .i64 (p : Int))).drewN q')) := zaa fun q q' => ((HC.out.go (Cf.drew _ _ _)).go (Cf.set _ _ _ _)).go (Cf.drew _ _ _)
   clear h HAP2 HCASE
   go_wp2_with fail
   go_quiet (fail)
   go_wp2_with fail
   go_quiet (fail)
   go_wp2
   go_ret
   obtain ⟨tx, htx, hcx⟩ := HCASE2.out
   rw [List.take_zero] at htx
   subst htx
   exact ⟨_, _, _, p, en', [], rfl, zaa ((HS2 _).out.drewN _), zaa (HCF.out _ _), zaa ⟨Sl.nil_any _ _ _ (by intro h; cases h), (fun q hq o ho => by injection hq with hq; injection ho with ho; subst hq ho; rfl), ⟨hp, Nat.zero_le _⟩, hcx⟩⟩
  ·obtain ⟨t, ht⟩ : ∃ t, p + m = t := ⟨_, rfl⟩
   have htI : (p : Int) + (m : Int) = (t : Int) := by omega
   have t1 : p ≤ t := by omega
   have t2 : t ≤ n := by omega
   have t3 : t ≤ cap := by omega
   have t4 : (p : Int) ≤ (t : Int) := by omega
   have t5 : (t : Int) ≤ (cap : Int) := by omega
   have t6 : t - p = m := by omega
   have t7 : ¬ t = p := by omega
   have HS2 : ∀ q, Hid (Rdq ((w1.drewN q).setCell ⟨r, 1, none⟩ (.int .i64 (t : Int))) r (some ⟨g, off, none⟩) n cap t en') := fun q => zaa (Rdq.set1 (HR.out.drewN q) t)
   have x0 := fun q => (HS2 q).out.c0
   have x1 := fun q => (HS2 q).out.c1
   have HCF : Hid (∀ q q' : Nat, Cf (· = r) w (((w1.drewN q).setCell ⟨r, 1, none⟩ (.int .i64 (t : Int))).drewN q')) := zaa fun q q' => ((HC.out.go (Cf.drew _ _ _)).go (Cf.set _ _ _ _)).go (Cf.drew _ _ _)
   have HCF1 : Hid (∀ q q' : Nat, Cf (· = r) w1 (((w1.drewN q).setCell ⟨r, 1, none⟩ (.int .i64 (t : Int))).drewN q')) := zaa fun q q' => ((Cf.drew _ _ _).go (Cf.set _ _ _ _)).go (Cf.drew _ _ _)
   have HSX := zaa (HS1.out.piece p m m (by omega) Lr)
   rw [ht] at HCASE2
   clear h HCASE ht
   go_wp2_with fail
   go_quiet (fail)
   go_wp2_with fail
   go_quiet (fail)
   go_wp2
   go_ret
   obtain ⟨tx, htx, hcx⟩ := HCASE2.out
   subst htx
   exact ⟨_, _, _, t, en', _, rfl, zaa ((HS2 _).out.drewN _), zaa (HCF.out _ _), zaa ⟨HSX.out.cf (HCF1.out _ _) HAP2.out, (fun q hq o ho => by injection hq with hq; injection ho with ho; subst hq ho; rfl), ⟨t2, by omega⟩, hcx⟩⟩
def KndTo (l : List Int) (w : World) (r : Nat) (ao : Option Addr) (n cap at_ : Nat) (en : Bool) (e : Ending) (w' : World) : Prop :=
 ∃ (v : Int) (p : Nat) (en' : Bool), e = .returned (.int .i64 v) ∧ Hid (Rdq w' r ao n cap p en') ∧ Hid (Cf (· = r) w w') ∧ Hid ((0 ≤ v ∧ v < 256) ∧ p ≤ n ∧ ((pNum 1 (l.drop at_) = some (v, l.drop p) ∧ en' = en) ∨ (pNum 1 (l.drop at_) = none ∧ en' = true ∧ v = 0 ∧ p = at_)))
theorem kind_any (l : List Int) (w : World) (r : Nat) (ao : Option Addr) (n cap at_ : Nat) (en : Bool) (hr : Rdq w r ao n cap at_ en) (hs : Sl w ao n cap l) (ha : at_ ≤ n) :
  Calls Tryz.prog 228 #[.pointer (some ⟨r, 0, none⟩)] w fun e w' => KndTo l w r ao n cap at_ en e w' := by
 have c0 := hr.c0
 have c1 := hr.c1
 have c2 := hr.c2
 have f1 := hr.free 1
 have f2 := hr.free 2
 have hn := hs.hroom
 have HR := zaa hr
 have hlen := hs.hlen
 by_cases h : 1 ≤ n - at_
 ·have HF : Hid (∀ q, Calls Tryz.prog 235 #[.slice ao n cap, .int .i64 (at_ : Int), .int .i64 1] (w.drewN q) fun e w' => e = .returned (.tuple #[.int .u64 (rdB ((l.drop at_).take 1)), .int .i64 0]) ∧ w' = w.drewN q) :=
   zaa fun q => by simpa using readFixed_ok ao n cap l (at_ : Int) 1 (w.drewN q) (hs.drewN q) (by omega) (by omega) (by omega) (by omega)
  have hp : pNum 1 (l.drop at_) = some (rdB ((l.drop at_).take 1), l.drop (at_ + 1)) := by
   unfold pNum
   rw [if_neg (by rw [zK]; omega), List.drop_drop]
  have hb := zdb ((l.drop at_).take 1) ((hs.wf.drop at_).take 1)
  rw [show ((l.drop at_).take 1).length = 1 from by rw [zJ, zK]; omega] at hb
  have HB := zaa hb
  have hb8 : rdB ((l.drop at_).take 1) < 256 := by omega
  generalize rdB ((l.drop at_).take 1) = v at *
  have hv0 := hb.1
  have HP := zaa hp
  clear hp hb hs
  have hw : wrap64 v = v := by simp [wrap64]; omega
  have HS : ∀ q, Hid (Rdq ((w.drewN q).setCell ⟨r, 1, none⟩ (.int .i64 ((at_ + 1 : Nat) : Int))) r ao n cap (at_ + 1) en) := fun q => zaa (Rdq.set1 (HR.out.drewN q) (at_ + 1))
  go_enter Tryz.func228, Tryz.ntmps228
  go_wp2_with fail
  go_quiet (first | (go_at_call 235; exact Calls.quiet_of_same (HF.out _)))
  go_wp2
  go_ret
  exact ⟨v, at_ + 1, en, rfl, by simpa using HS _, zaa ((Cf.drew _ _ _).go (Cf.set _ _ _ _)), zaa ⟨⟨hv0, hb8⟩, by omega, .inl ⟨HP.out, rfl⟩⟩⟩
 ·have HF : Hid (∀ q, Calls Tryz.prog 235 #[.slice ao n cap, .int .i64 (at_ : Int), .int .i64 1] (w.drewN q) fun e w' => e = .returned (.tuple #[.int .u64 0, .int .i64 10]) ∧ w' = w.drewN q) :=
   zaa fun q => by simpa using zds ao n cap (at_ : Int) 1 (w.drewN q) (by omega) (by omega) (by omega) (by omega) (by omega)
  have hp : pNum 1 (l.drop at_) = none := by
   unfold pNum
   rw [if_pos (by rw [zK]; omega)]
  have HP := zaa hp
  clear hp hs
  go_enter Tryz.func228, Tryz.ntmps228
  go_wp2_with fail
  go_quiet (first | (go_at_call 235; exact Calls.quiet_of_same (HF.out _)))
  go_wp2
  go_ret
  exact ⟨0, at_, true, rfl, zaa (Rdq.set2 (HR.out.drewN _) true), zaa ((Cf.drew _ _ _).go (Cf.set _ _ _ _)), zaa ⟨⟨by omega, by omega⟩, ha, .inr ⟨HP.out, rfl, rfl, rfl⟩⟩⟩
theorem Rdq.cf {w w' : World} {r : Nat} {ao : Option Addr} {n cap at_ : Nat} {en : Bool} {F : Nat → Prop} (h : Rdq w r ao n cap at_ en) (hc : Cf F w w') (hg : ¬ F r) : Rdq w' r ao n cap at_ en := (hc.block r h.lt hg).trans h
structure Csq (w u : World) (k r g off n cap p : Nat) (en : Bool) (l : List Int) (x0 x1 x2 x3 x4 : Value) : Prop where
 rd : Rdq u r (some ⟨g, off, none⟩) n cap p en
 sl : Sl u (some ⟨g, off, none⟩) n cap l
 c2 : C5 u k (.slice none 0 0) (.int .i64 0) (.slice none 0 0) (.int .i64 0) (.int .i64 0)
 c3 : C5 u (k + 1) x0 x1 x2 x3 x4
 cf : Cf (· = r) w u
 hk : k = w.heap.size
 hp : p ≤ n
theorem Csq.r_lt {w u : World} {k r g off n cap p : Nat} {en : Bool} {l : List Int} {x0 x1 x2 x3 x4 : Value} (h : Csq w u k r g off n cap p en l x0 x1 x2 x3 x4) (hr : r < w.heap.size) : ¬ k = r ∧ ¬ k + 1 = r := by
 have := h.hk
 omega
theorem Csq.kind {w u : World} {k r g off n cap p : Nat} {en : Bool} {l : List Int} {x0 x1 x2 x3 x4 : Value} (h : Csq w u k r g off n cap p en l x0 x1 x2 x3 x4) (hr : r < w.heap.size) :
  Calls Tryz.prog 228 #[.pointer (some ⟨r, 0, none⟩)] u fun e w' => ∃ (v : Int) (p' : Nat) (en' : Bool), e = .returned (.int .i64 v) ∧ Hid (Csq w w' k r g off n cap p' en' l x0 x1 x2 x3 x4) ∧ Hid ((pNum 1 (l.drop p) = some (v, l.drop p') ∧ en' = en) ∨ (pNum 1 (l.drop p) = none ∧ en' = true)) ∧ Hid (Cf (· = r) u w') := by
 refine (kind_any l u r _ n cap p en h.rd h.sl h.hp).mono ?_
 rintro e w' ⟨v, p', en', rfl, HR, HC, HV⟩
 obtain ⟨h1, h2⟩ := h.r_lt hr
 obtain ⟨_, hp, hv⟩ := HV.out
 refine ⟨v, p', en', rfl, zaa ⟨HR.out, h.sl.cf HC.out (h.sl.apartq h.rd), h.c2.cf HC.out h1, h.c3.cf HC.out h2, h.cf.go HC.out, h.hk, hp⟩, zaa ?_, HC⟩
 rcases hv with ⟨a, b⟩ | ⟨a, b, c, d⟩
 ·exact .inl ⟨a, b⟩
 ·exact .inr ⟨a, b⟩
theorem Csq.unumber {w u : World} {k r g off n cap p : Nat} {en : Bool} {l : List Int} {x0 x1 x2 x3 x4 : Value} (h : Csq w u k r g off n cap p en l x0 x1 x2 x3 x4) (hr : r < w.heap.size) :
  Calls Tryz.prog 230 #[.pointer (some ⟨r, 0, none⟩)] u fun e w' => ∃ (v : Int) (p' : Nat) (en' : Bool), e = .returned (.int .u64 v) ∧ Hid (Csq w w' k r g off n cap p' en' l x0 x1 x2 x3 x4) ∧ Hid ((pU (l.drop p) = some (v, l.drop p') ∧ en' = en) ∨ (pU (l.drop p) = none ∧ en' = true)) ∧ Hid (Cf (· = r) u w') := by
 refine (unumber_any l u r _ n cap p en h.rd h.sl h.hp).mono ?_
 rintro e w' ⟨v, p', en', rfl, HR, HC, HV⟩
 obtain ⟨h1, h2⟩ := h.r_lt hr
 obtain ⟨_, hp, hv⟩ := HV.out
 refine ⟨v, p', en', rfl, zaa ⟨HR.out, h.sl.cf HC.out (h.sl.apartq h.rd), h.c2.cf HC.out h1, h.c3.cf HC.out h2, h.cf.go HC.out, h.hk, hp⟩, zaa ?_, HC⟩
 rcases hv with ⟨a, b⟩ | ⟨a, b, c, d⟩
 ·exact .inl ⟨a, b⟩
 ·exact .inr ⟨a, b⟩
theorem Csq.text {w u : World} {k r g off n cap p : Nat} {en : Bool} {l : List Int} {x0 x1 x2 x3 x4 : Value} (h : Csq w u k r g off n cap p en l x0 x1 x2 x3 x4) (hr : r < w.heap.size) :
  Calls Tryz.prog 229 #[.pointer (some ⟨r, 0, none⟩)] u fun e w' => ∃ (ko : Option Addr) (kn kc p' : Nat) (en' : Bool) (t : List Int), e = .returned (.slice ko kn kc) ∧ Hid (Csq w w' k r g off n cap p' en' l x0 x1 x2 x3 x4) ∧ Hid (Sl w' ko kn kc t ∧ (∀ q, ko = some q → q.block = g) ∧ kn ≤ n) ∧ Hid ((pT (l.drop p) = some (t, l.drop p') ∧ en' = en) ∨ (pT (l.drop p) = none ∧ en' = true)) ∧ Hid (Cf (· = r) u w') := by
 refine (utext_any l u r g off n cap p en h.rd h.sl h.hp).mono ?_
 rintro e w' ⟨ko, kn, kc, p', en', t, rfl, HR, HC, HV⟩
 obtain ⟨h1, h2⟩ := h.r_lt hr
 obtain ⟨hs, hloc, ⟨hp, hkn⟩, hv⟩ := HV.out
 exact ⟨ko, kn, kc, p', en', t, rfl, zaa ⟨HR.out, h.sl.cf HC.out (h.sl.apartq h.rd), h.c2.cf HC.out h1, h.c3.cf HC.out h2, h.cf.go HC.out, h.hk, hp⟩, zaa ⟨hs, fun q hq => hloc q hq _ rfl, hkn⟩, zaa hv, HC⟩
theorem Csq.store {w u : World} {k r g off n cap p : Nat} {en : Bool} {l : List Int} {a b : Option Addr} {c d e f : Nat} {x y z : Int} (h : Csq w u k r g off n cap p en l (.slice a c d) (.int .i64 x) (.slice b e f) (.int .i64 y) (.int .i64 z)) (hr : r < w.heap.size) (i : Nat) (v : Value) {y0 y1 y2 y3 y4 : Value} (hy : C5 (u.setCell ⟨k + 1, i, none⟩ v) (k + 1) y0 y1 y2 y3 y4) :
  Csq w (u.setCell ⟨k + 1, i, none⟩ v) k r g off n cap p en l y0 y1 y2 y3 y4 := by
 obtain ⟨h1, h2⟩ := h.r_lt hr
 have hc := Cf.set u (k + 1) i v
 refine ⟨h.rd.cf hc (by omega), h.sl.cf hc (h.sl.apart5 h.c3), h.c2.cf hc (by omega), hy, ?_, h.hk, h.hp⟩
 refine h.cf.trans hc ?_
 intro j hj e
 have := h.hk
 omega
def UCellTo (l : List Int) (w : World) (r g off n cap at_ : Nat) (en : Bool) (e : Ending) (w' : World) : Prop :=
 ∃ (ko : Option Addr) (kn kc : Nat) (kd : Int) (vo : Option Addr) (vn vc : Nat) (pg ct : Int) (p : Nat) (en' : Bool) (key val : List Int), e = .returned (.agg #[.slice ko kn kc, .int .i64 kd, .slice vo vn vc, .int .i64 pg, .int .i64 ct]) ∧ Hid (Rdq w' r (some ⟨g, off, none⟩) n cap p en') ∧ Hid (Cf (· = r) w w') ∧
  Hid (Sl w' ko kn kc key ∧ Sl w' vo vn vc val ∧ (∀ q, ko = some q → q.block = g) ∧ (∀ q, vo = some q → q.block = g) ∧ (p ≤ n ∧ kn ≤ n) ∧ ((pC (l.drop at_) = some (⟨key, kd, val, pg, ct⟩, l.drop p) ∧ en' = en) ∨ (pC (l.drop at_) = none ∧ en' = true)))
theorem ucellV {l : List Int} {a p1 p2 p3 : Nat} {en e1 e2 e3 : Bool} {key val : List Int} (h1 : (pNum 1 (l.drop a) = some (1, l.drop p1) ∧ e1 = en) ∨ (pNum 1 (l.drop a) = none ∧ e1 = true))
  (h2 : (pT (l.drop p1) = some (key, l.drop p2) ∧ e2 = e1) ∨ (pT (l.drop p1) = none ∧ e2 = true)) (h3 : (pT (l.drop p2) = some (val, l.drop p3) ∧ e3 = e2) ∨ (pT (l.drop p2) = none ∧ e3 = true)) :
  (pC (l.drop a) = some (⟨key, 1, val, 0, 0⟩, l.drop p3) ∧ e3 = en) ∨ (pC (l.drop a) = none ∧ e3 = true) := by
 unfold pC
 rcases h1 with ⟨h1, rfl⟩ | ⟨h1, rfl⟩
 ·rw [h1]
  simp only
  rcases h2 with ⟨h2, rfl⟩ | ⟨h2, rfl⟩
  ·rw [h2]
   simp only [if_true]
   rcases h3 with ⟨h3, rfl⟩ | ⟨h3, rfl⟩
   ·rw [h3]; exact .inl ⟨rfl, rfl⟩
   ·rw [h3]; exact .inr ⟨rfl, rfl⟩
  ·rw [h2]
   refine .inr ⟨rfl, ?_⟩
   rcases h3 with ⟨_, h⟩ | ⟨_, h⟩ <;> exact h
 ·rw [h1]
  refine .inr ⟨rfl, ?_⟩
  rcases h2 with ⟨_, rfl⟩ | ⟨_, rfl⟩ <;> rcases h3 with ⟨_, h⟩ | ⟨_, h⟩ <;> exact h
theorem ucellN {l : List Int} {a p1 p2 p3 p4 : Nat} {en e1 e2 e3 e4 : Bool} {key : List Int} {kd pg ct : Int} (hk : kd ≠ 1) (h1 : (pNum 1 (l.drop a) = some (kd, l.drop p1) ∧ e1 = en) ∨ (pNum 1 (l.drop a) = none ∧ e1 = true))
  (h2 : (pT (l.drop p1) = some (key, l.drop p2) ∧ e2 = e1) ∨ (pT (l.drop p1) = none ∧ e2 = true)) (h3 : (pU (l.drop p2) = some (pg, l.drop p3) ∧ e3 = e2) ∨ (pU (l.drop p2) = none ∧ e3 = true))
  (h4 : (pU (l.drop p3) = some (ct, l.drop p4) ∧ e4 = e3) ∨ (pU (l.drop p3) = none ∧ e4 = true)) :
  (pC (l.drop a) = some (⟨key, kd, [], wrap64 pg, wrap64 ct⟩, l.drop p4) ∧ e4 = en) ∨ (pC (l.drop a) = none ∧ e4 = true) := by
 unfold pC
 rcases h1 with ⟨h1, rfl⟩ | ⟨h1, rfl⟩
 ·rw [h1]
  simp only
  rcases h2 with ⟨h2, rfl⟩ | ⟨h2, rfl⟩
  ·rw [h2]
   simp only [if_neg hk]
   rcases h3 with ⟨h3, rfl⟩ | ⟨h3, rfl⟩
   ·rw [h3]
    simp only
    rcases h4 with ⟨h4, rfl⟩ | ⟨h4, rfl⟩
    ·rw [h4]; exact .inl ⟨rfl, rfl⟩
    ·rw [h4]; exact .inr ⟨rfl, rfl⟩
   ·rw [h3]
    refine .inr ⟨rfl, ?_⟩
    rcases h4 with ⟨_, h⟩ | ⟨_, h⟩ <;> exact h
  ·rw [h2]
   refine .inr ⟨rfl, ?_⟩
   rcases h3 with ⟨_, rfl⟩ | ⟨_, rfl⟩ <;> rcases h4 with ⟨_, h⟩ | ⟨_, h⟩ <;> exact h
 ·rw [h1]
  refine .inr ⟨rfl, ?_⟩
  rcases h2 with ⟨_, rfl⟩ | ⟨_, rfl⟩ <;> rcases h3 with ⟨_, rfl⟩ | ⟨_, rfl⟩ <;> rcases h4 with ⟨_, h⟩ | ⟨_, h⟩ <;> exact h
theorem Csq.fin {w u : World} {k r g off n cap p at_ : Nat} {en en' : Bool} {l : List Int} {ko vo : Option Addr} {kn kc vn vc : Nat} {kd pg ct : Int} (h : Csq w u k r g off n cap p en' l (.slice ko kn kc) (.int .i64 kd) (.slice vo vn vc) (.int .i64 pg) (.int .i64 ct)) (hr : r < w.heap.size) {key val : List Int}
  (hk : Sl u ko kn kc key) (hv : Sl u vo vn vc val) (hloc : ∀ q, ko = some q → q.block = g) (hlocV : ∀ q, vo = some q → q.block = g) (hkn : kn ≤ n) (hc : (pC (l.drop at_) = some (⟨key, kd, val, pg, ct⟩, l.drop p) ∧ en' = en) ∨ (pC (l.drop at_) = none ∧ en' = true)) :
  UCellTo l w r g off n cap at_ en (.returned (.agg #[.slice ko kn kc, .int .i64 kd, .slice vo vn vc, .int .i64 pg, .int .i64 ct])) (put5 u k (.slice ko kn kc) (.int .i64 kd) (.slice vo vn vc) (.int .i64 pg) (.int .i64 ct)) := by
 obtain ⟨h1, h2⟩ := h.r_lt hr
 have hf := zbv u k (.slice ko kn kc) (.int .i64 kd) (.slice vo vn vc) (.int .i64 pg) (.int .i64 ct)
 refine ⟨ko, kn, kc, kd, vo, vn, vc, pg, ct, p, en', key, val, rfl, zaa (h.rd.cf hf (by omega)), zaa (h.cf.trans hf ?_), zaa ⟨hk.cf hf (hk.apart5 h.c2), hv.cf hf (hv.apart5 h.c2), hloc, hlocV, ⟨h.hp, hkn⟩, hc⟩⟩
 intro j hj e
 have := h.hk
 omega
theorem ucell_any (l : List Int) (w : World) (r g off n cap at_ : Nat) (en : Bool) (hr : Rdq w r (some ⟨g, off, none⟩) n cap at_ en) (hs : Sl w (some ⟨g, off, none⟩) n cap l) (ha : at_ ≤ n) :
  Calls Tryz.prog 201 #[.pointer (some ⟨r, 0, none⟩)] w fun e w' => UCellTo l w r g off n cap at_ en e w' := by
 have hrl := hr.lt
 obtain ⟨k, hk⟩ : ∃ k, w.heap.size = k := ⟨_, rfl⟩
 obtain ⟨u, hu⟩ : ∃ u, (w.alloc (.cells #[.slice none 0 0, .int .i64 0, .slice none 0 0, .int .i64 0, .int .i64 0] 43)).alloc (.cells #[.slice none 0 0, .int .i64 0, .slice none 0 0, .int .i64 0, .int .i64 0] 43) = u := ⟨_, rfl⟩
 have HC0 : Hid (Csq w u k r g off n cap at_ en l (.slice none 0 0) (.int .i64 0) (.slice none 0 0) (.int .i64 0) (.int .i64 0)) := by
  have hc : Cf (· = r) w u := by rw [← hu]; exact (Cf.alloc _ _ _).go (Cf.alloc _ _ _)
  refine zaa ⟨?_, ?_, ?_, ?_, hc, hk.symm, ha⟩
  ·rw [← hu]
   exact (Below.heap_alloc _ _ _ (by simp; omega)).trans ((Below.heap_alloc _ _ _ hrl).trans hr)
  ·rw [← hu]
   exact hs.on Lr (zac (zac Br Lr _) Lr _)
  ·rw [← hu, ← hk]
   exact (Below.heap_alloc _ _ _ (by simp)).trans (heap_alloc_last w _)
  ·rw [← hu, ← hk]
   have hz : (w.alloc (.cells #[.slice none 0 0, .int .i64 0, .slice none 0 0, .int .i64 0, .int .i64 0] 43)).heap.size = w.heap.size + 1 := by simp
   have := heap_alloc_last (w.alloc (.cells #[.slice none 0 0, .int .i64 0, .slice none 0 0, .int .i64 0, .int .i64 0] 43)) (.cells #[.slice none 0 0, .int .i64 0, .slice none 0 0, .int .i64 0, .int .i64 0] 43)
   rw [hz] at this
   exact this
 have N1 := zaa (HC0.out.kind hrl)
 clear hr hs
 go_enter Tryz.func201, Tryz.ntmps201
 go_wp2_with (go_at_call 228; refine N1.out.mono ?_; rintro e w1 ⟨v1, p1, e1, rfl, HS1, HV1, HX1⟩; refine Hid.out ?_)
 apply zaa
 clear N1 HC0 hu
 obtain ⟨a0, a1, a2, a3, a4⟩ := HS1.out.c3.cells
 obtain ⟨f0, f1, f2, f3, f4⟩ := HS1.out.c3.free
 have HT1 := zaa (HS1.out.store hrl 1 (.int .i64 v1) (HS1.out.c3.set (.int .i64 v1)).2.1)
 have T1 := zaa (HT1.out.text hrl)
 go_wp2_with (go_at_call 229; refine T1.out.mono ?_; rintro e w2 ⟨ko, kn, kc, p2, e2, key, rfl, HS2, HK2L, HV2, HX2⟩; refine Hid.out ?_)
 apply zaa
 have HK2 := zaa HK2L.out.1
 have HLOC := zaa HK2L.out.2.1
 have HKN := zaa HK2L.out.2.2
 clear HK2L
 clear a0 a1 a2 a3 a4 f0 f1 f2 f3 f4 T1 HT1 HS1
 obtain ⟨a0, a1, a2, a3, a4⟩ := HS2.out.c3.cells
 obtain ⟨f0, f1, f2, f3, f4⟩ := HS2.out.c3.free
 have HT2 := zaa (HS2.out.store hrl 0 (.slice ko kn kc) (HS2.out.c3.set (.slice ko kn kc)).1)
 have HK2a : Hid (Sl (w2.setCell ⟨k + 1, 0, none⟩ (.slice ko kn kc)) ko kn kc key) := zaa (HK2.out.cf (Cf.set _ _ _ _) (HK2.out.apart5 HS2.out.c3))
 by_cases h1 : v1 = 1
 ·subst h1
  have T2 := zaa (HT2.out.text hrl)
  go_wp2_with (go_at_call 229; refine T2.out.mono ?_; rintro e w3 ⟨vo, vn, vc, p3, e3, val, rfl, HS3, HK3L, HV3, HX3⟩; refine Hid.out ?_)
  apply zaa
  have HK3 := zaa HK3L.out.1
  have HLOCV := zaa HK3L.out.2.1
  clear HK3L
  have HK3a : Hid (Sl w3 ko kn kc key) := zaa (HK2a.out.cf HX3.out (HK2a.out.apartq HT2.out.rd))
  clear a0 a1 a2 a3 a4 f0 f1 f2 f3 f4 T2 HT2 HS2 HK2a
  obtain ⟨a0, a1, a2, a3, a4⟩ := HS3.out.c3.cells
  obtain ⟨f0, f1, f2, f3, f4⟩ := HS3.out.c3.free
  obtain ⟨b0, b1, b2, b3, b4⟩ := HS3.out.c2.cells
  obtain ⟨d0, d1, d2, d3, d4⟩ := HS3.out.c2.free
  have HT3 := zaa (HS3.out.store hrl 2 (.slice vo vn vc) (HS3.out.c3.set (.slice vo vn vc)).2.2.1)
  have HK3b : Hid (Sl (w3.setCell ⟨k + 1, 2, none⟩ (.slice vo vn vc)) ko kn kc key) := zaa (HK3a.out.cf (Cf.set _ _ _ _) (HK3a.out.apart5 HS3.out.c3))
  have HK3c : Hid (Sl (w3.setCell ⟨k + 1, 2, none⟩ (.slice vo vn vc)) vo vn vc val) := zaa (HK3.out.cf (Cf.set _ _ _ _) (HK3.out.apart5 HS3.out.c3))
  have HV := zaa (ucellV HV1.out HV2.out HV3.out)
  clear HS3 HK3 HK3a HV1 HV2 HV3 HX1 HX2 HX3 HK2
  go_wp2
  refine bodyPost_ret (results_cell_row rfl _ _ k 43 #[.slice ko kn kc, .int .i64 1, .slice vo vn vc, .int .i64 0, .int .i64 0] (0, 0) _ (by rfl) (HT3.out.c2.put _ _ _ _ _) Tryz.underlying43 rfl zbh) rfl ?_
  exact HT3.out.fin hrl HK3b.out HK3c.out HLOC.out HLOCV.out HKN.out HV.out
 ·have T2 := zaa (HT2.out.unumber hrl)
  go_wp2_with (go_at_call 230; refine T2.out.mono ?_; rintro e w3 ⟨pg, p3, e3, rfl, HS3, HV3, HX3⟩; refine Hid.out ?_)
  apply zaa
  have HK3a : Hid (Sl w3 ko kn kc key) := zaa (HK2a.out.cf HX3.out (HK2a.out.apartq HT2.out.rd))
  clear a0 a1 a2 a3 a4 f0 f1 f2 f3 f4 T2 HT2 HS2 HK2a
  obtain ⟨a0, a1, a2, a3, a4⟩ := HS3.out.c3.cells
  obtain ⟨f0, f1, f2, f3, f4⟩ := HS3.out.c3.free
  have HT3 := zaa (HS3.out.store hrl 3 (.int .i64 (wrap64 pg)) (HS3.out.c3.set (.int .i64 (wrap64 pg))).2.2.2.1)
  have HK3b : Hid (Sl (w3.setCell ⟨k + 1, 3, none⟩ (.int .i64 (wrap64 pg))) ko kn kc key) := zaa (HK3a.out.cf (Cf.set _ _ _ _) (HK3a.out.apart5 HS3.out.c3))
  have T3 := zaa (HT3.out.unumber hrl)
  go_wp2_with (go_at_call 230; refine T3.out.mono ?_; rintro e w4 ⟨ct, p4, e4, rfl, HS4, HV4, HX4⟩; refine Hid.out ?_)
  apply zaa
  have HK4a : Hid (Sl w4 ko kn kc key) := zaa (HK3b.out.cf HX4.out (HK3b.out.apartq HT3.out.rd))
  clear a0 a1 a2 a3 a4 f0 f1 f2 f3 f4 T3 HT3 HS3 HK3a HK3b
  obtain ⟨a0, a1, a2, a3, a4⟩ := HS4.out.c3.cells
  obtain ⟨f0, f1, f2, f3, f4⟩ := HS4.out.c3.free
  obtain ⟨b0, b1, b2, b3, b4⟩ := HS4.out.c2.cells
  obtain ⟨d0, d1, d2, d3, d4⟩ := HS4.out.c2.free
  have HT4 := zaa (HS4.out.store hrl 4 (.int .i64 (wrap64 ct)) (HS4.out.c3.set (.int .i64 (wrap64 ct))).2.2.2.2)
  have HK4b : Hid (Sl (w4.setCell ⟨k + 1, 4, none⟩ (.int .i64 (wrap64 ct))) ko kn kc key) := zaa (HK4a.out.cf (Cf.set _ _ _ _) (HK4a.out.apart5 HS4.out.c3))
  have HV := zaa (ucellN h1 HV1.out HV2.out HV3.out HV4.out)
  clear HS4 HK4a HV1 HV2 HV3 HV4 HX1 HX2 HX3 HX4 HK2
  go_wp2
  refine bodyPost_ret (results_cell_row rfl _ _ k 43 #[.slice ko kn kc, .int .i64 v1, .slice none 0 0, .int .i64 (wrap64 pg), .int .i64 (wrap64 ct)] (0, 0) _ (by rfl) (HT4.out.c2.put _ _ _ _ _) Tryz.underlying43 rfl zbh) rfl ?_
  exact HT4.out.fin hrl HK4b.out (Sl.nil_any _ _ _ fun _ => rfl) HLOC.out (fun q hq => by cases hq) HKN.out HV.out
def eV (ho : Option Addr) (hn hc : Nat) (ko : Option Addr) (kn kc : Nat) (kd : Int) (vo : Option Addr) (vn vc : Nat) (pg ct : Int) : Array Value := #[.slice ho hn hc, .slice ko kn kc, .int .i64 kd, .slice vo vn vc, .int .i64 pg, .int .i64 ct]
def E6 (w : World) (g : Nat) (x0 x1 x2 x3 x4 x5 : Value) : Prop := w.heap[g]? = some (.cells #[x0, x1, x2, x3, x4, x5] 159 (0, 0))
theorem E6.cells {w : World} {g : Nat} {x0 x1 x2 x3 x4 x5 : Value} (h : E6 w g x0 x1 x2 x3 x4 x5) :
  w.cell? ⟨g, 0, none⟩ = some x0 ∧ w.cell? ⟨g, 1, none⟩ = some x1 ∧ w.cell? ⟨g, 2, none⟩ = some x2 ∧ w.cell? ⟨g, 3, none⟩ = some x3 ∧ w.cell? ⟨g, 4, none⟩ = some x4 ∧ w.cell? ⟨g, 5, none⟩ = some x5 := by
 unfold E6 at h
 refine ⟨?_, ?_, ?_, ?_, ?_, ?_⟩
 ·rw [cell_of_row _ _ 0 _ _ _ h]; rfl
 ·rw [cell_of_row _ _ 1 _ _ _ h]; rfl
 ·rw [cell_of_row _ _ 2 _ _ _ h]; rfl
 ·rw [cell_of_row _ _ 3 _ _ _ h]; rfl
 ·rw [cell_of_row _ _ 4 _ _ _ h]; rfl
 ·rw [cell_of_row _ _ 5 _ _ _ h]; rfl
theorem E6.box (w : World) (x0 x1 x2 x3 x4 x5 : Value) : E6 (w.alloc (.cells #[x0, x1, x2, x3, x4, x5] 159)) w.heap.size x0 x1 x2 x3 x4 x5 := heap_alloc_last w _
theorem E6.gr {w w' : World} {v v' : Value} {g : Nat} {x0 x1 x2 x3 x4 x5 : Value} (h : E6 w g x0 x1 x2 x3 x4 x5) (hg : Gr w v w' v') (hv : v.ownBlock ≠ some g) : E6 w' g x0 x1 x2 x3 x4 x5 := (hg.grow.block g (zah h) (fun e => hv e.symm)).trans h
theorem OwnB.apart6 {w : World} {B : Nat} {v : Value} {l : List Int} (h : OwnB w B v l) {g : Nat} {x0 x1 x2 x3 x4 x5 : Value} (hc : E6 w g x0 x1 x2 x3 x4 x5) : v.ownBlock ≠ some g := by
 intro e
 unfold OwnB at h
 rcases h.2 with ⟨rfl, _⟩ | ⟨q, cap, cur, rfl, _, hh, _⟩
 ·cases e
 ·simp only [Value.ownBlock, Option.some.injEq] at e
  subst e
  unfold E6 at hc
  rw [hc] at hh
  simp at hh
theorem add_block (a : Addr) (n : Nat) : (a.add n).block = a.block := by simp only [Addr.add]; split <;> rfl
theorem sl_from {w : World} {ao : Option Addr} {n cap : Nat} {l : List Int} (h : Sl w ao n cap l) (k : Nat) (hk : k ≤ n) : (ao = none ∧ n = 0 ∧ cap = 0) ∨ ∃ a, ao = some a ∧ ((cap = k ∧ Sl w (some a) (n - k) (cap - k) (l.drop k)) ∨ (cap ≠ k ∧ Sl w (some (a.add k)) (n - k) (cap - k) (l.drop k))) := by
 have hc := h.hcap
 cases ao with
 | none =>
  have := h.hnil rfl
  exact .inl ⟨rfl, by omega, this⟩
 | some a =>
  refine .inr ⟨a, rfl, ?_⟩
  by_cases e : cap = k
  ·refine .inl ⟨e, ?_⟩
   have hn : n - k = 0 := by omega
   have hd : l.drop k = [] := List.drop_eq_nil_of_le (by have := h.hlen; omega)
   rw [hn, hd]
   exact Sl.nil_any _ _ _ (by intro h; cases h)
  ·refine .inr ⟨e, ?_⟩
   by_cases hz : n = k
   ·subst hz
    rw [Nat.sub_self, List.drop_eq_nil_of_le (by have := h.hlen; omega)]
    exact Sl.nil_any _ _ _ (by intro h; cases h)
   ·rcases h.hat with h0 | ⟨b, off, e2, hlt, hcl⟩
    ·omega
    ·injection e2 with e2
     subst e2
     have := h.piece k (n - k) (cap - k) (by omega) (by omega)
     rw [List.take_of_length_le (by rw [zK]; have := h.hlen; omega)] at this
     simpa [Addr.add_lit] using this
def RestTo (ho ko : Option Addr) (hn kn : Nat) (l : List Int) (w : World) (e : Ending) (w' : World) : Prop :=
 ∃ (a1 : Option Addr) (n1 c1 : Nat) (a2 : Option Addr) (n2 c2 : Nat) (l1 l2 : List Int), e = .returned (.tuple #[.slice a1 n1 c1, .slice a2 n2 c2]) ∧ Hid (Below w.heap.size w w') ∧ Hid (Sl w' a1 n1 c1 l1 ∧ Sl w' a2 n2 c2 l2 ∧ l1 ++ l2 = l ∧ (∀ q, a1 = some q → ∃ o, ho = some o ∧ q.block = o.block) ∧ (∀ q, a2 = some q → ∃ o, ko = some o ∧ q.block = o.block) ∧ n1 ≤ hn ∧ n2 ≤ kn)
theorem erest_any (ho : Option Addr) (hn hc : Nat) (ko : Option Addr) (kn kc : Nat) (kd : Int) (vo : Option Addr) (vn vc : Nat) (pg ct : Int) (h key : List Int) (n : Nat) (w : World) (hh : Sl w ho hn hc h) (hk : Sl w ko kn kc key) (hl : n ≤ hn + kn) :
  Calls Tryz.prog 226 #[.agg (eV ho hn hc ko kn kc kd vo vn vc pg ct), .int .i64 (n : Int)] w fun e w' => RestTo ho ko hn kn ((h ++ key).drop n) w e w' := by
 unfold eV
 have hhr := hh.hroom
 have hkr := hk.hroom
 have hhl := hh.hlen
 have hkl := hk.hlen
 have hhc := hh.hcap
 have hkc := hk.hcap
 obtain ⟨x, hx⟩ : ∃ x, w.alloc (.cells #[.slice ho hn hc, .slice ko kn kc, .int .i64 kd, .slice vo vn vc, .int .i64 pg, .int .i64 ct] 159) = x := ⟨_, rfl⟩
 have hbx : Below w.heap.size w x := by rw [← hx]; exact zac Br Lr _
 have hb6 : E6 x w.heap.size (.slice ho hn hc) (.slice ko kn kc) (.int .i64 kd) (.slice vo vn vc) (.int .i64 pg) (.int .i64 ct) := by rw [← hx]; exact E6.box w _ _ _ _ _ _
 obtain ⟨b0, b1, b2, b3, b4, b5⟩ := hb6.cells
 have HBX := zaa hbx
 have HK := zaa (hk.on Lr hbx)
 have HH := zaa (hh.on Lr hbx)
 have i1 : (n : Int) ≤ 281474976710656 := by omega
 have i2 : (hn : Int) ≤ 140737488355328 := by omega
 have i3 : (kn : Int) ≤ 140737488355328 := by omega
 by_cases hle : n ≤ hn
 ·have hleI : (n : Int) ≤ (hn : Int) := by omega
  have hlc : n ≤ hc := by omega
  have hlcI : (n : Int) ≤ (hc : Int) := by omega
  have HD : Hid (h.drop n ++ key = (h ++ key).drop n) := zaa (by rw [List.drop_append_of_le_length (by omega)])
  rcases sl_from HH.out n hle with ⟨rfl, rfl, rfl⟩ | ⟨a, rfl, ⟨hcn, hs⟩ | ⟨hcn, hs⟩⟩
  ·obtain rfl : n = 0 := by omega
   clear hh hk hbx hb6
   go_enter Tryz.func226, Tryz.ntmps226
   go_wp2_with fail
   go_quiet (fail)
   go_wp2
   go_ret2
   have : h = [] := List.eq_nil_of_length_eq_zero hhl
   subst this
   exact ⟨none, 0, 0, ko, kn, kc, [], key, rfl, zaa (zad HBX.out _), zaa ⟨Sl.nil_any _ _ _ (fun _ => rfl), HK.out.drewN _, by simp, (by intro q hq; cases hq), (fun q hq => ⟨q, hq, rfl⟩), by simp, by simp⟩⟩
  ·have HS := zaa hs
   clear hh hk hbx hb6 hs
   subst hcn
   obtain rfl : hn = hc := by omega
   go_enter Tryz.func226, Tryz.ntmps226
   go_wp2_with fail
   go_quiet (fail)
   go_wp2
   go_ret2
   exact ⟨some a, _, _, ko, kn, kc, h.drop hn, key, rfl, zaa (zad HBX.out _), zaa ⟨by simpa using HS.out.drewN _, HK.out.drewN _, HD.out, (fun q hq => ⟨a, rfl, by injection hq with hq; rw [hq]⟩), (fun q hq => ⟨q, hq, rfl⟩), by simp, by simp⟩⟩
  ·have HS := zaa hs
   have hcn2 : hc - n ≠ 0 := by omega
   have hcn3 : n < hc := by omega
   have hcn4 : (n : Int) < (hc : Int) := by omega
   clear hh hk hbx hb6 hs
   go_enter Tryz.func226, Tryz.ntmps226
   go_wp2_with fail
   go_quiet (fail)
   go_wp2
   go_ret2
   exact ⟨some (a.add n), _, _, ko, kn, kc, h.drop n, key, rfl, zaa (zad HBX.out _), zaa ⟨by simpa using HS.out.drewN _, HK.out.drewN _, HD.out, (fun q hq => ⟨a, rfl, by injection hq with hq; rw [← hq, add_block]⟩), (fun q hq => ⟨q, hq, rfl⟩), by simp, by simp⟩⟩
 ·have hleI : ¬ (n : Int) ≤ (hn : Int) := by omega
  obtain ⟨m, hm⟩ : ∃ m, n = hn + m := ⟨n - hn, by omega⟩
  subst hm
  have hmk : m ≤ kn := by omega
  have hmkI : (m : Int) ≤ (kn : Int) := by omega
  have hmc : m ≤ kc := by omega
  have hmcI : (m : Int) ≤ (kc : Int) := by omega
  have HD : Hid ([] ++ key.drop m = (h ++ key).drop (hn + m)) := zaa (by rw [← hhl, List.drop_append]; simp)
  have hw : IntKind.i64.wrap (((hn + m : Nat) : Int) - (hn : Int)) = (m : Int) := by rw [IntKind.wrap_i64]; omega
  have hw2 : ((hn : Int) + (m : Int)) - (hn : Int) = (m : Int) := by omega
  rcases sl_from HK.out m hmk with ⟨rfl, rfl, rfl⟩ | ⟨a, rfl, ⟨hcn, hs⟩ | ⟨hcn, hs⟩⟩
  ·omega
  ·have HS := zaa hs
   clear hh hk hbx hb6 hs
   subst hcn
   obtain rfl : kn = kc := by omega
   go_enter Tryz.func226, Tryz.ntmps226
   go_wp2_with fail
   go_quiet (fail)
   go_wp2
   go_ret2
   exact ⟨none, 0, 0, some a, _, _, [], key.drop kn, rfl, zaa (zad HBX.out _), zaa ⟨Sl.nil_any _ _ _ (fun _ => rfl), by simpa using HS.out.drewN _, HD.out, (by intro q hq; cases hq), (fun q hq => ⟨a, rfl, by injection hq with hq; rw [hq]⟩), by simp, by simp⟩⟩
  ·have HS := zaa hs
   have hcn2 : kc - m ≠ 0 := by omega
   have hcn3 : m < kc := by omega
   have hcn4 : (m : Int) < (kc : Int) := by omega
   clear hh hk hbx hb6 hs
   go_enter Tryz.func226, Tryz.ntmps226
   go_wp2_with fail
   go_quiet (fail)
   go_wp2
   go_ret2
   exact ⟨none, 0, 0, some (a.add m), _, _, [], key.drop m, rfl, zaa (zad HBX.out _), zaa ⟨Sl.nil_any _ _ _ (fun _ => rfl), by simpa using HS.out.drewN _, HD.out, (by intro q hq; cases hq), (fun q hq => ⟨a, rfl, by injection hq with hq; rw [← hq, add_block]⟩), by simp, by simp⟩⟩
theorem run_app_sl (w : World) (ty : TypeId) (B : Nat) (l news : List Int) (v : Value) (ao : Option Addr) (n c : Nat) (hown : OwnB w B v l) (hsl : Sl w ao n c news) (hb : l.length + n ≤ 140737488355328) (hbase : B ≤ w.heap.size) :
  ∃ v' w', (Builtin.append_ #[41, 41] ty #[v, .slice ao n c]).run Tryz.prog w = .ok v' w' ∧ OwnB w' B v' (l ++ news) ∧ Gr w v w' v' := by
 obtain ⟨i0, hi, hz0, hz1, hz2⟩ := info_parts zaw
 have hlen := hsl.hlen
 cases ao with
 | none =>
  have : n = 0 := by have := hsl.hnil rfl; have := hsl.hcap; omega
  subst this
  have hc0 := hsl.hnil rfl
  subst hc0
  obtain rfl : news = [] := List.eq_nil_of_length_eq_zero hlen
  exact ⟨v, w, run_append_owned_none (P := Tryz.prog) (w := w) B 41 ty 5 i0 1 Tryz.underlying41 hi v l.length (By l) hown, by simpa using hown, Gr.refl _ _⟩
 | some ad =>
  obtain ⟨v', w', hr, h1, h2, _, h4⟩ := run_append_own_at (P := Tryz.prog) w B 41 ty 5 i0 (.int .u8 0) 1 1 Tryz.underlying41 hi hz0 hz1 hz2 rfl (by decide) v l.length (By l) hown ad n c (By news) (by simp [By, hlen])
   (fun j u hu => by
    obtain ⟨h1, h2⟩ := getElem?_By news j u hu
    rw [h2]
    rcases hsl.hat with h0 | ⟨b, off, e, _, hc⟩
    ·omega
    ·injection e with e
     subst e
     rw [Addr.add_lit]
     exact hc j (by omega)) (zbt news) (by unfold maxLen; omega) (by omega) hbase
  refine ⟨v', w', hr, ?_, ⟨h2, h4.imp id fun e => ⟨_, e, Lr⟩⟩⟩
  unfold OwnB
  rw [zda, zG, hlen]
  exact h1
theorem step_sl {ops : Array Oper} {o : Oper} {a : Act} {w : World} {K : Act → World → Prop} {Q : Exit → Act → World → Prop} {E : Prop} (hgd : o.guard = none) (s x : Operand)
  (ho : o.op = .call { callee := .builtin .append, args := #[s, x], argTypes := #[41, 41] }) (B : Nat) (l news : List Int) (v : Value) (ao : Option Addr) (n c : Nat) (hs : a.eval s = v) (hx : a.eval x = .slice ao n c)
  (hown : OwnB w B v l) (hsl : Sl w ao n c news) (hb : l.length + n ≤ 140737488355328) (hbase : B ≤ w.heap.size)
  (h : ∀ v' w', OwnB w' B v' (l ++ news) → Gr w v w' v' → K (a.put o.dst v') w') :
  if Region.wanted o (yielded ops a.tmps) = true then Oper.wp Tryz.prog o a w K Q else E := by
 have hw : Region.wanted o (yielded ops a.tmps) = true := by simp [Region.wanted, hgd]
 rw [if_pos hw]
 obtain ⟨v', w', hr, h1, h2⟩ := run_app_sl w o.type B l news v ao n c hown hsl hb hbase
 have hfin := h v' w' h1 h2
 unfold Oper.wp
 simp [execOp, ho, resolve, invoke, builtin, hs, hx, hr, Result.andThen]
 exact hfin
theorem withKey_any (v : Value) (B : Nat) (l : List Int) (ho : Option Addr) (hn hc : Nat) (ko : Option Addr) (kn kc : Nat) (kd : Int) (vo : Option Addr) (vn vc : Nat) (pg ct : Int) (h key : List Int) (w : World) (hown : OwnB w B v l) (hB : B ≤ w.heap.size)
  (hh : Sl w ho hn hc h) (hk : Sl w ko kn kc key) (fh : Far ho hn v) (fk : Far ko kn v) (hl : l.length + hn + kn ≤ 140737488355328) :
  Calls Tryz.prog 231 #[.agg (eV ho hn hc ko kn kc kd vo vn vc pg ct), v] w fun e w' => ∃ v', e = .returned v' ∧ Hid (OwnB w' B v' (l ++ h ++ key)) ∧ Hid (Gr w v w' v') := by
 unfold eV
 obtain ⟨x, hx⟩ : ∃ x, w.alloc (.cells #[.slice ho hn hc, .slice ko kn kc, .int .i64 kd, .slice vo vn vc, .int .i64 pg, .int .i64 ct] 159) = x := ⟨_, rfl⟩
 have hbx : Below w.heap.size w x := by rw [← hx]; exact zac Br Lr _
 have hb6 : E6 x w.heap.size (.slice ho hn hc) (.slice ko kn kc) (.int .i64 kd) (.slice vo vn vc) (.int .i64 pg) (.int .i64 ct) := by rw [← hx]; exact E6.box w _ _ _ _ _ _
 obtain ⟨s, hs⟩ : ∃ s, w.heap.size = s := ⟨_, rfl⟩
 rw [hs] at hb6
 have HB6 := zaa hb6
 obtain ⟨b0, b1, b2, b3, b4, b5⟩ := hb6.cells
 have HO : Hid (OwnB x B v l) := zaa (hown.on Lr hbx)
 have HK : Hid (Sl x ko kn kc key) := zaa (hk.on Lr hbx)
 have HH : Hid (Sl x ho hn hc h) := zaa (hh.on Lr hbx)
 have HG : Hid (Gr w v x v) := zaa (Gr.ofBelow v hbx)
 have hBx : B ≤ x.heap.size := zN hB hbx.size
 have HFH := zaa fh
 have HFK := zaa fk
 have HAP := zaa (HO.out.apart6 hb6)
 have hlh : h.length = hn := hh.hlen
 clear hown hh hk fh fk hbx hb6
 go_enter Tryz.func231, Tryz.ntmps231
 go_wp2_with fail
 go_region_law (first
  | (refine step_sl rfl (.tmp 5) (.tmp 7) rfl B l h v ho hn hc rfl rfl (by first | exact HO.out | exact HO.out.on Lr Br.drew | exact HO.out.on Lr (zad Br _)) (by first | exact HH.out | exact HH.out.on Lr Br.drew | exact HH.out.drewN _) (by omega) (by first | exact hBx | simpa using hBx) ?_; intro v1 w1 ho1 g1; have hg1 : Gr x v w1 v1 := (Gr.ofBelow v (by first | exact Br | exact Br.drew | exact zad Br _)).trans g1; have HO1 := zaa ho1; have HK1 := zaa (HK.out.gr hg1 HFK.out); have HG1 := zaa (HG.out.trans hg1); have hB1 : B ≤ w1.heap.size := zN hBx hg1.grow.size; obtain ⟨y0, y1, y2, y3, y4, y5⟩ := (HB6.out.gr hg1 HAP.out).cells; clear ho1 g1 hg1)
  | (refine step_sl rfl (.tmp 8) (.tmp 11) rfl B (l ++ h) key v1 ko kn kc rfl rfl (by first | exact HO1.out | exact HO1.out.on Lr Br.drew | exact HO1.out.on Lr (zad Br _)) (by first | exact HK1.out | exact HK1.out.on Lr Br.drew | exact HK1.out.drewN _) (by rw [zG]; omega) (by first | exact hB1 | simpa using hB1) ?_; intro v2 w2 ho2 g2; have HO2 := zaa ho2; have HG2 := zaa (HG1.out.trans ((Gr.ofBelow v1 (by first | exact Br | exact Br.drew | exact zad Br _)).trans g2)); clear ho2 g2))
 all_goals
  go_wp2
  go_ret
  exact ⟨v2, rfl, HO2, HG2⟩
theorem made_run (N : Nat) (hN : N ≤ 281474976710656) (u : World) : (Instr.makeSlice 41 (.int .i64 0) (.int .i64 (N : Int))).run Tryz.prog u = .ok (.slice (some ⟨u.heap.size, 0, none⟩) 0 N) (u.alloc (.cells (madeCells #[.int .u8 0] N) 5)) := by
 obtain ⟨i0, hi, hz0, hz1, hz2⟩ := info_parts zaw
 have hr := run_make (P := Tryz.prog) u 41 5 i0 (.int .u8 0) Tryz.underlying41 hi hz0 .i64 .i64 0 N (Int.le_refl _) (by omega) (by rw [hz2]; omega) (by omega)
 simp only [Int.toNat_zero, Int.toNat_natCast, hz1, Nat.mul_one] at hr
 exact hr
theorem own_made (N B : Nat) (hN : N ≤ 281474976710656) (u : World) (hB : B ≤ u.heap.size) : OwnB (u.alloc (.cells (madeCells #[.int .u8 0] N) 5)) B (.slice (some ⟨u.heap.size, 0, none⟩) 0 N) [] :=
 World.ownsRow_made u _ N hB (by unfold maxLen; omega) (by rw [Nat.mul_one]; exact size_madeCells _ _)
theorem keyq_any (ho : Option Addr) (hn hc : Nat) (ko : Option Addr) (kn kc : Nat) (kd : Int) (vo : Option Addr) (vn vc : Nat) (pg ct : Int) (h key : List Int) (w : World)
  (hh : Sl w ho hn hc h) (hk : Sl w ko kn kc key) (hl : hn + kn ≤ 140737488355328) :
  Calls Tryz.prog 202 #[.agg (eV ho hn hc ko kn kc kd vo vn vc pg ct)] w fun e w' => ∃ v', e = .returned v' ∧ Hid (OwnB w' w.heap.size v' (h ++ key)) ∧ Hid (Below w.heap.size w w') := by
 unfold eV
 obtain ⟨x, hx⟩ : ∃ x, w.alloc (.cells #[.slice ho hn hc, .slice ko kn kc, .int .i64 kd, .slice vo vn vc, .int .i64 pg, .int .i64 ct] 159) = x := ⟨_, rfl⟩
 have hbx : Below w.heap.size w x := by rw [← hx]; exact zac Br Lr _
 have hb6 : E6 x w.heap.size (.slice ho hn hc) (.slice ko kn kc) (.int .i64 kd) (.slice vo vn vc) (.int .i64 pg) (.int .i64 ct) := by rw [← hx]; exact E6.box w _ _ _ _ _ _
 obtain ⟨s, hs⟩ : ∃ s, w.heap.size = s := ⟨_, rfl⟩
 have hsx : s < x.heap.size := by rw [← hs]; exact zah hb6
 rw [hs] at hb6
 obtain ⟨b0, b1, b2, b3, b4, b5⟩ := hb6.cells
 obtain ⟨N, hN⟩ : ∃ N, hn + kn = N := ⟨_, rfl⟩
 have hNI : (hn : Int) + (kn : Int) = (N : Int) := by omega
 have hNb : N ≤ 140737488355328 := by omega
 have i1 : (hn : Int) ≤ 140737488355328 := by omega
 have i2 : (kn : Int) ≤ 140737488355328 := by omega
 have hwN : IntKind.i64.wrap (N : Int) = (N : Int) := by rw [IntKind.wrap_i64]; omega
 have hmk := made_run N (by omega)
 have HW : Hid (∀ u g, Below x.heap.size x u → OwnB u x.heap.size (.slice (some ⟨g, 0, none⟩) 0 N) [] → Calls Tryz.prog 231 #[.agg #[.slice ho hn hc, .slice ko kn kc, .int .i64 kd, .slice vo vn vc, .int .i64 pg, .int .i64 ct], .slice (some ⟨g, 0, none⟩) 0 N] u fun e w' => ∃ v', e = .returned v' ∧ Hid (OwnB w' w.heap.size v' (h ++ key)) ∧ Hid (Below w.heap.size w w')) := by
  refine zaa fun u g hu hown => ?_
  have hg : x.heap.size ≤ g := (World.ownsRow.lt hown g rfl).1
  have far : ∀ (ao : Option Addr) (n cap : Nat) (l : List Int), Sl x ao n cap l → Far ao n (.slice (some ⟨g, 0, none⟩) 0 N) := by
   intro ao n cap l hsl
   rcases hsl.hat with h0 | ⟨b, off, e, hlt, _⟩
   ·exact .inl h0
   ·refine .inr fun p hp e2 => ?_
    rw [e] at hp
    injection hp with hp
    subst hp
    injection e2 with e2
    have e3 : g = b := e2
    omega
  have hhx := hh.on Lr hbx
  have hkx := hk.on Lr hbx
  refine (withKey_any _ x.heap.size [] ho hn hc ko kn kc kd vo vn vc pg ct h key u hown hu.size (hhx.on Lr hu) (hkx.on Lr hu) (far _ _ _ _ hhx) (far _ _ _ _ hkx) (by simp; omega)).mono ?_
  rintro e w' ⟨v', rfl, HO, HG⟩
  refine ⟨v', rfl, zaa ?_, zaa (hbx.trans ((hu.trans (HG.out.below hown hu.size)).mono hbx.size))⟩
  have := HO.out.low (B := w.heap.size) hbx.size
  simpa using this
 clear hh hk hbx hb6 hN
 go_enter Tryz.func202, Tryz.ntmps202
 go_wp2_with fail
 go_region_with (first | (go_at_call 231; refine (HW.out _ _ ?_ ?_).mono ?_; (repeat (first | exact Br | apply Below.drew | apply below_drewN | refine zac ?_ Lr _)); (first | exact own_made N _ (by omega) _ (by simp) | exact (own_made N _ (by omega) _ (by simp)).on Lr Br.drew | exact (own_made N _ (by omega) _ (by simp)).on Lr (zad Br _)); rintro e w1 ⟨v1, rfl, HO1, HB1⟩))
 all_goals
  go_wp2
  go_ret
  exact ⟨v1, rfl, HO1, HB1⟩
theorem RestTo.far {w : World} {ao ho : Option Addr} {n hn : Nat} {v : Value} (hf : Far ho hn v) (hb : ∀ q, ao = some q → ∃ o, ho = some o ∧ q.block = o.block) (hn1 : n ≤ hn) (_ : w = w) : Far ao n v := by
 rcases hf with h0 | hf
 ·exact .inl (by omega)
 ·refine .inr fun q hq e => ?_
  obtain ⟨o, ho, hqo⟩ := hb q hq
  rw [hqo] at e
  exact hf o ho e
theorem OwnB.slu {w : World} {B : Nat} {v : Value} {n : Int} (h : OwnB w B v (uB n)) (h0 : 0 ≤ n) (hn : n < 18446744073709551616) : ∃ ao m c, v = .slice ao m c ∧ Sl w ao m c (uB n) ∧ m ≤ 10 := by
 have hl := zas n
 obtain ⟨a1, c1, rfl, s1, _⟩ := h.sl (uB_wf h0 hn) (by omega)
 exact ⟨a1, _, c1, rfl, s1, hl.1⟩
theorem eappended_any (v : Value) (B : Nat) (l : List Int) (ho : Option Addr) (hn hc : Nat) (ko : Option Addr) (kn kc : Nat) (kd : Int) (vo : Option Addr) (vn vc : Nat) (pg ct : Int) (h key val : List Int) (n : Nat) (w : World) (hown : OwnB w B v l) (hB : B ≤ w.heap.size)
  (hh : Sl w ho hn hc h) (hk : Sl w ko kn kc key) (hv : Sl w vo vn vc val) (fh : Far ho hn v) (fk : Far ko kn v) (fv : Far vo vn v) (hnl : n ≤ hn + kn) (hl : l.length + hn + kn + vn ≤ 35184372088832) :
  Calls Tryz.prog 198 #[.agg (eV ho hn hc ko kn kc kd vo vn vc pg ct), v, .int .i64 (n : Int)] w fun e w' => ∃ v', e = .returned v' ∧ Hid (OwnB w' B v' (l ++ qB n ⟨h ++ key, kd, val, pg, ct⟩)) ∧ Hid (Gr w v w' v') := by
 obtain ⟨x, hx⟩ : ∃ x, w.alloc (.cells #[.slice ho hn hc, .slice ko kn kc, .int .i64 kd, .slice vo vn vc, .int .i64 pg, .int .i64 ct] 159) = x := ⟨_, rfl⟩
 have hbx : Below w.heap.size w x := by rw [← hx]; exact zac Br Lr _
 have hb6 : E6 x w.heap.size (.slice ho hn hc) (.slice ko kn kc) (.int .i64 kd) (.slice vo vn vc) (.int .i64 pg) (.int .i64 ct) := by rw [← hx]; exact E6.box w _ _ _ _ _ _
 obtain ⟨s, hs⟩ : ∃ s, w.heap.size = s := ⟨_, rfl⟩
 rw [hs] at hb6
 have HB6 := zaa hb6
 obtain ⟨b0, b1, b2, b3, b4, b5⟩ := hb6.cells
 have HO : Hid (OwnB x B v l) := zaa (hown.on Lr hbx)
 have HK : Hid (Sl x ko kn kc key) := zaa (hk.on Lr hbx)
 have HH : Hid (Sl x ho hn hc h) := zaa (hh.on Lr hbx)
 have HV : Hid (Sl x vo vn vc val) := zaa (hv.on Lr hbx)
 have HG : Hid (Gr w v x v) := zaa (Gr.ofBelow v hbx)
 have hBx : B ≤ x.heap.size := zN hB hbx.size
 have HFH := zaa fh
 have HFK := zaa fk
 have HFV := zaa fv
 have HR := zaa (erest_any ho hn hc ko kn kc kd vo vn vc pg ct h key n x HH.out HK.out hnl)
 have HLK : Hid (h.length = hn ∧ key.length = kn ∧ val.length = vn) := zaa ⟨hh.hlen, hk.hlen, hv.hlen⟩
 clear hown hh hk hv fh fk fv hbx hb6
 unfold eV at HR ⊢
 go_enter Tryz.func198, Tryz.ntmps198
 go_wp2_with (go_at_call 226; refine HR.out.mono ?_; rintro e w1 ⟨a1, n1, c1, a2, n2, c2, l1, l2, rfl, HB1, HQ⟩; refine Hid.out ?_)
 apply zaa
 obtain ⟨q1, q2, q3, q4, q5, q6, q7⟩ := HQ.out
 have G1 : Gr x v w1 v := Gr.ofBelow v HB1.out
 have HG1 : Hid (Gr w v w1 v) := zaa (HG.out.trans G1)
 have H61 : Hid (E6 w1 s (.slice ho hn hc) (.slice ko kn kc) (.int .i64 kd) (.slice vo vn vc) (.int .i64 pg) (.int .i64 ct)) := zaa (zaf HB6.out HB1.out)
 have HO1 : Hid (OwnB w1 B v l) := zaa (HO.out.on Lr HB1.out)
 have HV1 : Hid (Sl w1 vo vn vc val) := zaa (HV.out.on Lr HB1.out)
 have hB1 : B ≤ w1.heap.size := zN hBx HB1.out.size
 have F1 : Far a1 n1 v := RestTo.far (w := w) HFH.out q4 q6 rfl
 have F2 : Far a2 n2 v := RestTo.far (w := w) HFK.out q5 q7 rfl
 have HS1 := zaa q1
 have HS2 := zaa q2
 have HLL := zaa q3
 have HF1 := zaa F1
 have HF2 := zaa F2
 have hn1 : n1 + n2 ≤ hn + kn := by omega
 have j1 : (n1 : Int) ≤ 35184372088832 := by omega
 have j2 : (n2 : Int) ≤ 35184372088832 := by omega
 have HL12 : Hid (l1.length = n1 ∧ l2.length = n2) := zaa ⟨q1.hlen, q2.hlen⟩
 clear HR HQ q1 q2 q3 q4 q5 q6 q7 G1 F1 F2 HB1 HB6 HH HK HV HO HG b0 b1 b2 b3 b4 b5 hx
 obtain ⟨b0, b1, b2, b3, b4, b5⟩ := H61.out.cells
 obtain ⟨y, hy⟩ : ∃ y, w1.alloc (.cells #[.int .u8 (kd % 256)] 5) = y := ⟨_, rfl⟩
 have hby : Below w1.heap.size w1 y := by rw [← hy]; exact zac Br Lr _
 have HY1 : Hid (Sl y (some ⟨w1.heap.size, 0, none⟩) 1 1 [kd % 256]) := zaa (by rw [← hy]; exact sl_one w1 _ (by omega))
 have HYO : Hid (OwnB y B v l) := zaa (HO1.out.on Lr hby)
 have hBy : B ≤ y.heap.size := zN hB1 hby.size
 have HGY := zaa (Gr.ofBelow v hby)
 have HBY := zaa hby
 clear hby
 go_wp2_with (at_builtin; refine zbi _ rfl _ _ rfl B l [kd % 256] v (some ⟨w1.heap.size, 0, none⟩) 1 1 rfl rfl HYO.out HY1.out (by omega) hBy ?_; refine Hid.out ?_)
 apply zaa
 intro v2 w2 ho2 g2
 have G2 : Gr w1 v w2 v2 := HGY.out.trans g2
 have HG2 := zaa (HG1.out.trans G2)
 have H62 := zaa (H61.out.gr G2 (HO1.out.apart6 H61.out))
 have HO2 := zaa ho2
 have HV2 := zaa (HV1.out.gr G2 HFV.out)
 have HS12 := zaa (HS1.out.gr G2 HF1.out)
 have HS22 := zaa (HS2.out.gr G2 HF2.out)
 have HF12 := zaa (HF1.out.gr HS1.out G2)
 have HF22 := zaa (HF2.out.gr HS2.out G2)
 have HFV2 := zaa (HFV.out.gr HV1.out G2)
 have hB2 : B ≤ w2.heap.size := zN hB1 G2.grow.size
 clear ho2 g2 G2 HGY HY1 HYO HBY hBy b0 b1 b2 b3 b4 b5 H61 HO1 HV1 HS1 HS2 HF1 HF2 HFV HG1 hy
 obtain ⟨b0, b1, b2, b3, b4, b5⟩ := H62.out.cells
 obtain ⟨M, hM⟩ : ∃ M, n1 + n2 = M := ⟨_, rfl⟩
 have hMI : (n1 : Int) + (n2 : Int) = (M : Int) := by omega
 have hMb : (M : Int) ≤ 35184372088832 := by omega
 have hMw : IntKind.u64.wrap (M : Int) = (M : Int) := by rw [IntKind.wrap_u64]; omega
 have HU := zaa (zcl (M : Int) w2 (by omega) (by omega))
 have HML : Hid (((h ++ key).drop n).length = M) := zaa (by rw [← HLL.out, zG, HL12.out.1, HL12.out.2]; exact hM)
 clear hM
 go_wp2_with (go_at_call 227; refine HU.out.mono ?_; rintro e w3 ⟨u3, rfl, ho3, hb3⟩; refine Hid.out ?_)
 apply zaa
 obtain ⟨ua, um, uc, rfl, us3, hum⟩ := ho3.slu (by omega) (by omega)
 have G3 : Gr w2 v2 w3 v2 := Gr.ofBelow v2 hb3
 have HO3 : Hid (OwnB w3 B v2 (l ++ [kd % 256])) := zaa (HO2.out.on Lr hb3)
 have HU3 := zaa us3
 have hB3 : B ≤ w3.heap.size := zN hB2 hb3.size
 have HG3 := zaa G3
 clear ho3 us3 hb3 G3 HU
 go_wp2_with (at_builtin; refine zbi _ rfl _ _ rfl B (l ++ [kd % 256]) (uB (M : Int)) v2 ua um uc rfl rfl HO3.out HU3.out (by simp; omega) hB3 ?_; refine Hid.out ?_)
 apply zaa
 intro v4 w4 ho4 g4
 have G4 : Gr w2 v2 w4 v4 := HG3.out.trans g4
 have HG4 := zaa (HG2.out.trans G4)
 have H64 := zaa (H62.out.gr G4 (HO2.out.apart6 H62.out))
 have HO4 := zaa ho4
 have HV4 := zaa (HV2.out.gr G4 HFV2.out)
 have HS14 := zaa (HS12.out.gr G4 HF12.out)
 have HS24 := zaa (HS22.out.gr G4 HF22.out)
 have HF14 := zaa (HF12.out.gr HS12.out G4)
 have HF24 := zaa (HF22.out.gr HS22.out G4)
 have HFV4 := zaa (HFV2.out.gr HV2.out G4)
 have hB4 : B ≤ w4.heap.size := zN hB2 G4.grow.size
 clear ho4 g4 G4 HG3 HO3 HU3 hB3 b0 b1 b2 b3 b4 b5 H62 HO2 HV2 HS12 HS22 HF12 HF22 HFV2 HG2
 obtain ⟨b0, b1, b2, b3, b4, b5⟩ := H64.out.cells
 obtain ⟨L4, hL4⟩ : ∃ L, l ++ [kd % 256] ++ uB (M : Int) = L := ⟨_, rfl⟩
 have hll4 : L4.length ≤ l.length + 11 := by
  have := (zas (M : Int)).1
  rw [← hL4]
  simp only [zG, List.length_cons, List.length_nil]
  omega
 replace HO4 : Hid (OwnB w4 B v4 L4) := zaa (by rw [← hL4]; simpa using HO4.out)
 have HL4 := zaa hL4
 clear hL4
 go_wp2_with (at_builtin; refine zbi _ rfl _ _ rfl B L4 l1 v4 a1 n1 c1 rfl rfl HO4.out HS14.out (by omega) hB4 ?_; refine Hid.out ?_)
 apply zaa
 intro v5 w5 ho5 g5
 have HG5 := zaa (HG4.out.trans g5)
 have H65 := zaa (H64.out.gr g5 (HO4.out.apart6 H64.out))
 have HO5 := zaa ho5
 have HV5 := zaa (HV4.out.gr g5 HFV4.out)
 have HS25 := zaa (HS24.out.gr g5 HF24.out)
 have HF25 := zaa (HF24.out.gr HS24.out g5)
 have HFV5 := zaa (HFV4.out.gr HV4.out g5)
 have hB5 : B ≤ w5.heap.size := zN hB4 g5.grow.size
 clear ho5 g5 b0 b1 b2 b3 b4 b5 H64 HO4 HV4 HS14 HS24 HF14 HF24 HFV4 HG4
 have hll5 : (L4 ++ l1).length + n2 ≤ 140737488355328 := by rw [zG, HL12.out.1]; omega
 go_wp2_with (at_builtin; refine zbi _ rfl _ _ rfl B (L4 ++ l1) l2 v5 a2 n2 c2 rfl rfl HO5.out HS25.out hll5 hB5 ?_; refine Hid.out ?_)
 apply zaa
 intro v6 w6 ho6 g6
 have HG6 := zaa (HG5.out.trans g6)
 have H66 := zaa (H65.out.gr g6 (HO5.out.apart6 H65.out))
 have HO6 := zaa ho6
 have HV6 := zaa (HV5.out.gr g6 HFV5.out)
 have HFV6 := zaa (HFV5.out.gr HV5.out g6)
 have hB6 : B ≤ w6.heap.size := zN hB5 g6.grow.size
 clear ho6 g6 H65 HO5 HV5 HS25 HF25 HFV5 HG5
 obtain ⟨b0, b1, b2, b3, b4, b5⟩ := H66.out.cells
 obtain ⟨L6, hL6⟩ : ∃ L, L4 ++ l1 ++ l2 = L := ⟨_, rfl⟩
 have hll6 : L6.length ≤ l.length + 11 + (hn + kn) := by
  rw [← hL6]
  simp only [zG, HL12.out.1, HL12.out.2]
  omega
 replace HO6 : Hid (OwnB w6 B v6 L6) := zaa (by rw [← hL6]; simpa using HO6.out)
 have HQB : Hid (∀ T, (if kd = 1 then uB (val.length : Int) ++ val else uB (pg % 18446744073709551616) ++ uB (ct % 18446744073709551616)) = T → l ++ qB n ⟨h ++ key, kd, val, pg, ct⟩ = L6 ++ T) := zaa (by
  intro T hT
  unfold qB
  simp only [hT]
  rw [← hL6, ← HL4.out, ← HLL.out]
  have e : (h ++ key).length - n = M := by have := HML.out; rwa [zK] at this
  rw [e]
  simp only [zM])
 clear hL6 HL4 HLL HL12 HML
 have hln : (vn : Int) ≤ 35184372088832 := by omega
 by_cases hk1 : kd = 1
 ·subst hk1
  have hVw : IntKind.u64.wrap (vn : Int) = (vn : Int) := by rw [IntKind.wrap_u64]; omega
  have HU := zaa (zcl (vn : Int) w6 (by omega) (by omega))
  go_wp2_with (go_at_call 227; refine HU.out.mono ?_; rintro e w7 ⟨u7, rfl, ho7, hb7⟩; refine Hid.out ?_)
  apply zaa
  obtain ⟨ua, um, uc, rfl, us7, hum⟩ := ho7.slu (by omega) (by omega)
  have HG7 := zaa (Gr.ofBelow v6 hb7)
  have HO7 : Hid (OwnB w7 B v6 L6) := zaa (HO6.out.on Lr hb7)
  have HU7 := zaa us7
  have hB7 : B ≤ w7.heap.size := zN hB6 hb7.size
  clear ho7 us7 hb7 HU
  go_wp2_with (at_builtin; refine zbi _ rfl _ _ rfl B L6 (uB (vn : Int)) v6 ua um uc rfl rfl HO7.out HU7.out (by omega) hB7 ?_; refine Hid.out ?_)
  apply zaa
  intro v8 w8 ho8 g8
  have G8 : Gr w6 v6 w8 v8 := HG7.out.trans g8
  have HG8 := zaa (HG6.out.trans G8)
  have H68 := zaa (H66.out.gr G8 (HO6.out.apart6 H66.out))
  have HO8 := zaa ho8
  have HV8 := zaa (HV6.out.gr G8 HFV6.out)
  have hB8 : B ≤ w8.heap.size := zN hB6 G8.grow.size
  clear ho8 g8 G8 HG7 HO7 HU7 b0 b1 b2 b3 b4 b5 H66 HO6 HV6 HFV6 HG6
  obtain ⟨b0, b1, b2, b3, b4, b5⟩ := H68.out.cells
  have hll8 : (L6 ++ uB (vn : Int)).length + vn ≤ 140737488355328 := by
   have := (zas (vn : Int)).1
   rw [zG]
   omega
  go_wp2_with (at_builtin; refine zbi _ rfl _ _ rfl B (L6 ++ uB (vn : Int)) val v8 vo vn vc rfl rfl HO8.out HV8.out hll8 hB8 ?_; refine Hid.out ?_)
  apply zaa
  intro v9 w9 ho9 g9
  have HG9 := zaa (HG8.out.trans g9)
  have HO9 : Hid (OwnB w9 B v9 (l ++ qB n ⟨h ++ key, 1, val, pg, ct⟩)) := zaa (by
   rw [HQB.out (uB (vn : Int) ++ val) (by simp [HLK.out.2.2])]
   simpa using ho9)
  clear ho9 g9
  go_wp2
  go_ret
  exact ⟨v9, rfl, HO9, HG9⟩
 ·obtain ⟨P, hP⟩ : ∃ P, pg % 18446744073709551616 = P := ⟨_, rfl⟩
  obtain ⟨C, hC⟩ : ∃ C, ct % 18446744073709551616 = C := ⟨_, rfl⟩
  have hPw : IntKind.u64.wrap pg = P := by rw [IntKind.wrap_u64, hP]
  have hCw : IntKind.u64.wrap ct = C := by rw [IntKind.wrap_u64, hC]
  have HT := zaa (HQB.out (uB P ++ uB C) (by rw [if_neg hk1, hP, hC]))
  have HU := zaa (zcl P w6 (by omega) (by omega))
  have hP1 : 0 ≤ P ∧ P < 18446744073709551616 := by omega
  have hC1 : 0 ≤ C ∧ C < 18446744073709551616 := by omega
  clear hP hC HQB
  have hk1b : (kd == 1) = false := by simpa using hk1
  go_wp2_with (go_at_call 227; refine HU.out.mono ?_; rintro e w7 ⟨u7, rfl, ho7, hb7⟩; refine Hid.out ?_)
  apply zaa
  obtain ⟨ua, um, uc, rfl, us7, hum⟩ := ho7.slu hP1.1 hP1.2
  have HG7 := zaa (Gr.ofBelow v6 hb7)
  have HO7 : Hid (OwnB w7 B v6 L6) := zaa (HO6.out.on Lr hb7)
  have HU7 := zaa us7
  have hB7 : B ≤ w7.heap.size := zN hB6 hb7.size
  clear ho7 us7 hb7 HU
  go_wp2_with (at_builtin; refine zbi _ rfl _ _ rfl B L6 (uB P) v6 ua um uc rfl rfl HO7.out HU7.out (by omega) hB7 ?_; refine Hid.out ?_)
  apply zaa
  intro v8 w8 ho8 g8
  have G8 : Gr w6 v6 w8 v8 := HG7.out.trans g8
  have HG8 := zaa (HG6.out.trans G8)
  have H68 := zaa (H66.out.gr G8 (HO6.out.apart6 H66.out))
  have HO8 := zaa ho8
  have hB8 : B ≤ w8.heap.size := zN hB6 G8.grow.size
  clear ho8 g8 G8 HG7 HO7 HU7 b0 b1 b2 b3 b4 b5 H66 HO6 HV6 HFV6 HG6
  obtain ⟨b0, b1, b2, b3, b4, b5⟩ := H68.out.cells
  have HU := zaa (zcl C w8 hC1.1 hC1.2)
  go_wp2_with (go_at_call 227; refine HU.out.mono ?_; rintro e w9 ⟨u9, rfl, ho9, hb9⟩; refine Hid.out ?_)
  apply zaa
  obtain ⟨ua, um9, uc, rfl, us9, hum9⟩ := ho9.slu hC1.1 hC1.2
  have HG9 := zaa (HG8.out.trans (Gr.ofBelow v8 hb9))
  have HO9 : Hid (OwnB w9 B v8 (L6 ++ uB P)) := zaa (HO8.out.on Lr hb9)
  have HU9 := zaa us9
  have hB9 : B ≤ w9.heap.size := zN hB8 hb9.size
  clear ho9 us9 hb9 HU
  have hll9 : (L6 ++ uB P).length + um9 ≤ 140737488355328 := by
   have := (zas P).1
   rw [zG]
   omega
  go_wp2_with (at_builtin; refine zbi _ rfl _ _ rfl B (L6 ++ uB P) (uB C) v8 ua um9 uc rfl rfl HO9.out HU9.out hll9 hB9 ?_; refine Hid.out ?_)
  apply zaa
  intro vA wA hoA gA
  have HGA := zaa (HG9.out.trans gA)
  have HOA : Hid (OwnB wA B vA (l ++ qB n ⟨h ++ key, kd, val, pg, ct⟩)) := zaa (by
   rw [HT.out]
   simpa using hoA)
  clear hoA gA
  go_wp2
  go_ret
  exact ⟨vA, rfl, HOA, HGA⟩
def Cd (w : World) (v u : Value) (l : List Int) : Prop := ∀ C m g, OwnB w C v m → u.ownBlock = some g → v.ownBlock = some g → l <+: m
structure Gs (w : World) (v : Value) (w' : World) (v' : Value) : Prop extends Gr w v w' v' where
 old : ∀ B u l, OwnB w B u l → Cd w v u l → OwnB w' B u l ∧ Cd w' v' u l
theorem OwnB.ltk7 {w : World} {B : Nat} {v : Value} {l : List Int} {g : Nat} (h : OwnB w B v l) (hg : v.ownBlock = some g) : B ≤ g ∧ g < w.heap.size := by
 unfold OwnB at h
 exact h.lt g hg
theorem OwnB.keep7 {w w' : World} {B : Nat} {v : Value} {l : List Int} (h : OwnB w B v l) (hb : ∀ g, v.ownBlock = some g → w'.heap[g]? = w.heap[g]?) : OwnB w' B v l := by
 unfold OwnB at *
 refine ⟨h.1, ?_⟩
 rcases h.2 with h0 | ⟨g, cap, cur, e, hg, hh, r⟩
 ·exact .inl h0
 ·exact .inr ⟨g, cap, cur, e, hg, (hb g (by rw [e]; rfl)).trans hh, r⟩
theorem By_inj7 {a b : List Int} (h : By a = By b) : a = b := by
 unfold By at h
 exact (List.map_inj_right (fun x y e => by injection e)).1 h
theorem OwnB.one7 {w : World} {B C : Nat} {v : Value} {l m : List Int} (h : OwnB w B v l) (k : OwnB w C v m) : l = m := by
 unfold OwnB at *
 rcases h.2 with ⟨e, h0⟩ | ⟨g, cap, cur, e, hg, hh, _, _, _, ht⟩
 ·rcases k.2 with ⟨_, k0⟩ | ⟨g', cap', cur', e', _⟩
  ·have a : l = [] := List.eq_nil_of_length_eq_zero h0
   have b : m = [] := List.eq_nil_of_length_eq_zero k0
   rw [a, b]
  ·rw [e] at e'
   cases e'
 ·rcases k.2 with ⟨e', _⟩ | ⟨g', cap', cur', e', _, hh', _, _, _, ht'⟩
  ·rw [e] at e'
   cases e'
  ·rw [e] at e'
   injection e' with e1 e2 e3
   injection e1 with e1
   injection e1 with e1
   subst e1
   rw [hh] at hh'
   injection hh' with hh'
   injection hh' with hc
   subst hc
   rw [e2, ht'] at ht
   exact (By_inj7 ht).symm
theorem Gs.ofBelow {w w' : World} (v : Value) (h : Below w.heap.size w w') : Gs w v w' v := by
 refine ⟨Gr.ofBelow v h, fun B u l hu hc => ⟨hu.on Lr h, fun C m g hm h1 h2 => ?_⟩⟩
 have hg := (hu.ltk7 h1).2
 refine hc C m g (hm.keep7 (fun k hk => ?_)) h1 h2
 rw [h2] at hk
 injection hk with hk
 subst hk
 exact (h.block g hg).symm
theorem Gs.trans {a b c : World} {u v x : Value} (h : Gs a u b v) (k : Gs b v c x) : Gs a u c x := by
 refine ⟨h.toGr.trans k.toGr, fun B y l hy hc => ?_⟩
 obtain ⟨h1, h2⟩ := h.old B y l hy hc
 exact k.old B y l h1 h2
theorem run_app2 (w : World) (ty : TypeId) (B : Nat) (l news : List Int) (v : Value) (ao : Option Addr) (n c : Nat) (hown : OwnB w B v l) (hsl : Sl w ao n c news) (hb : l.length + n ≤ 140737488355328) (hbase : B ≤ w.heap.size) :
  ∃ v' w', (Builtin.append_ #[41, 41] ty #[v, .slice ao n c]).run Tryz.prog w = .ok v' w' ∧ OwnB w' B v' (l ++ news) ∧ Gs w v w' v' := by
 obtain ⟨i0, hi, hz0, hz1, hz2⟩ := info_parts zaw
 obtain ⟨v', w', hr, h2, h3⟩ := run_app_sl w ty B l news v ao n c hown hsl hb hbase
 refine ⟨v', w', hr, h2, h3, fun C u lu hu hc => ?_⟩
 have hlen := hsl.hlen
 have fresh : (∀ k, k < w.heap.size → w'.heap[k]? = w.heap[k]?) → (∀ g, v'.ownBlock = some g → w.heap.size ≤ g) → OwnB w' C u lu ∧ Cd w' v' u lu := fun hk hg => by
  refine ⟨hu.keep7 (fun g e => hk g (hu.ltk7 e).2), fun D m g _ e1 e2 => ?_⟩
  have := hg g e2
  have := (hu.ltk7 e1).2
  omega
 cases ao with
 | none =>
  have : n = 0 := by have := hsl.hnil rfl; have := hsl.hcap; omega
  subst this
  have hc0 := hsl.hnil rfl
  subst hc0
  have hr2 := run_append_owned_none (P := Tryz.prog) (w := w) B 41 ty 5 i0 1 Tryz.underlying41 hi v l.length (By l) hown
  rw [hr] at hr2
  injection hr2 with e1 e2
  subst e1 e2
  exact ⟨hu, hc⟩
 | some ad =>
  have hnews : ∀ j x, (By news)[j]? = some x → w.cell? (ad.add j) = some x := fun j x hx => by
   obtain ⟨h1, h2⟩ := getElem?_By news j x hx
   rw [h2]
   rcases hsl.hat with h0 | ⟨b, off, e, _, hcc⟩
   ·omega
   ·injection e with e
    subst e
    rw [Addr.add_lit]
    exact hcc j (by omega)
  have hnl : (By news).length = n := by simp [By, hlen]
  have hown' := hown
  unfold OwnB at hown'
  rcases hown'.2 with ⟨rfl, h0⟩ | ⟨g, cap, cur, rfl, hg, hh, hnc, hm, hs, ht⟩
  ·by_cases hn0 : n = 0
   ·subst hn0
    obtain rfl : news = [] := List.eq_nil_of_length_eq_zero hlen
    obtain rfl : l = [] := List.eq_nil_of_length_eq_zero h0
    have hr2 : (Builtin.append_ #[41, 41] ty #[.slice none 0 0, .slice (some ad) 0 c]).run Tryz.prog w = .ok (.slice none 0 0) w := by
     simp [Builtin.append_, run_underlying Tryz.underlying41, sizeOf, typeInfo, hi, Builtin.lenOf, Builtin.firstCells, loadCells, loadCellsFrom]
    rw [hr] at hr2
    injection hr2 with e1 e2
    subst e1 e2
    exact ⟨hu, hc⟩
   ·have hr2 := run_append_nil (P := Tryz.prog) w 41 ty 5 i0 _ Tryz.underlying41 hi hz0 ad n c (By news) (by rw [hz1, hnl]; omega) hnews (by omega) (by omega) (by rw [hz2]; omega)
    rw [hr] at hr2
    injection hr2 with e1 e2
    exact fresh (fun k hk => by rw [e2]; exact (zac Br.drew Lr _).block k hk) (fun g hg => by rw [e1] at hg; simp [Value.ownBlock] at hg; omega)
  ·by_cases hroom : l.length + n ≤ cap
   ·have hr2 := run_append_room (P := Tryz.prog) w 41 ty 5 i0 Tryz.underlying41 hi g l.length cap cur hh ad n c (By news) (by rw [hz1, hnl]; omega) hnews (zbt news) hroom (by rw [hs, hz1, hnl]; omega)
    rw [hr] at hr2
    injection hr2 with e1 e2
    subst e1
    have hcd : ∀ gu, u.ownBlock = some gu → gu = g → lu <+: l := fun gu e1 e2 => hc B l gu hown e1 (by rw [e2]; rfl)
    refine ⟨?_, fun D m gg hm1 k1 k2 => ?_⟩
    ·have hu' := hu
     unfold OwnB at hu' ⊢
     rcases hu'.2 with h00 | ⟨q, capu, curu, rfl, hq, hhu, hncu, hmu, hsu, htu⟩
     ·exact ⟨hu'.1, .inl h00⟩
     ·by_cases hqg : q = g
      ·subst hqg
       have hpre := hcd q rfl rfl
       rw [hh] at hhu
       injection hhu with hhu
       injection hhu with hcu
       subst hcu
       have h2' := h2
       unfold OwnB at h2'
       rcases h2'.2 with ⟨e, _⟩ | ⟨q2, cap2, cur2, e, hq2, hh2, _, _, hs2, ht2⟩
       ·cases e
       ·injection e with e3 e4 e5
        injection e3 with e3
        injection e3 with e3
        subst e3
        subst e5
        refine ⟨hu'.1, .inr ⟨q, capu, cur2, rfl, hq, hh2, hncu, hmu, by omega, ?_⟩⟩
        obtain ⟨r, hr3⟩ := hpre
        have hlu : lu.length ≤ l.length := by rw [← hr3, zG]; omega
        have : cur2.toList.take (lu.length * 1) = (cur2.toList.take ((l ++ news).length * 1)).take (lu.length * 1) := by
         rw [List.take_take, Nat.min_eq_left (by rw [zG]; omega)]
        rw [this, ht2, ← hr3, zM, zda, List.take_left' (by simp [By])]
      ·exact ⟨hu'.1, .inr ⟨q, capu, curu, rfl, hq, (by rw [← hhu]; exact h3.grow.block q (zah hhu) (by simp only [Value.ownBlock]; intro e; injection e with e; exact hqg e)), hncu, hmu, hsu, htu⟩⟩
    ·simp only [Value.ownBlock] at k2
     injection k2 with k2
     have h5 := hcd gg k1 k2.symm
     have h6 := hm1.one7 h2
     rw [h6]
     exact h5.trans (List.prefix_append _ _)
   ·have hr2 := run_append_grow (P := Tryz.prog) w 41 ty 5 i0 _ Tryz.underlying41 hi hz0 ⟨g, 0, none⟩ l.length cap (By l) (by rw [hz1]; simp [By]) (World.ownsRow.cells hown' (g := g) rfl) ad n c (By news) (by rw [hz1, hnl]; omega) hnews (by omega) (by omega) (growslice_fits (by omega) (by rw [hz2]; omega))
    rw [hr] at hr2
    injection hr2 with e1 e2
    exact fresh (fun k hk => by rw [e2]; exact (zac Br.drew Lr _).block k hk) (fun g hg => by rw [e1] at hg; simp [Value.ownBlock] at hg; omega)
theorem zcm {ops : Array Oper} {rest : List Oper} {o : Oper} {a : Act} {Q : Exit → Act → World → Prop} (w : World) (hgd : o.guard = none) (s x : Operand)
  (ho : o.op = .call { callee := .builtin .append, args := #[s, x], argTypes := #[41, 41] }) (B : Nat) (l news : List Int) (v : Value) (ao : Option Addr) (n c : Nat) (hs : a.eval s = v) (hx : a.eval x = .slice ao n c)
  (hown : OwnB w B v l) (hsl : Sl w ao n c news) (hb : l.length + n ≤ 140737488355328) (hbase : B ≤ w.heap.size)
  (h : ∀ v' w', OwnB w' B v' (l ++ news) → Gs w v w' v' → wpList Tryz.prog ops Q rest (a.put o.dst v') w') : wpList Tryz.prog ops Q (o :: rest) a w := by
 obtain ⟨v', w', hr, h2, h3⟩ := run_app2 w o.type B l news v ao n c hown hsl hb hbase
 refine wpList_plain hgd fun K hK => ?_
 unfold Oper.wp execOp
 simp only [ho, resolve, invoke, builtin, Sem.run_bind, Sem.run_pure, Result.andThen_ok, List.map_toArray, List.map_cons, List.map_nil, hs, hx, hr]
 exact hK _ _ (h v' w' h2 h3)
theorem eappended2 (v : Value) (B : Nat) (l : List Int) (ho : Option Addr) (hn hc : Nat) (ko : Option Addr) (kn kc : Nat) (kd : Int) (vo : Option Addr) (vn vc : Nat) (pg ct : Int) (h key val : List Int) (n : Nat) (w : World) (hown : OwnB w B v l) (hB : B ≤ w.heap.size)
  (hh : Sl w ho hn hc h) (hk : Sl w ko kn kc key) (hv : Sl w vo vn vc val) (fh : Far ho hn v) (fk : Far ko kn v) (fv : Far vo vn v) (hnl : n ≤ hn + kn) (hl : l.length + hn + kn + vn ≤ 35184372088832) :
  Calls Tryz.prog 198 #[.agg (eV ho hn hc ko kn kc kd vo vn vc pg ct), v, .int .i64 (n : Int)] w fun e w' => ∃ v', e = .returned v' ∧ Hid (OwnB w' B v' (l ++ qB n ⟨h ++ key, kd, val, pg, ct⟩)) ∧ Hid (Gs w v w' v') := by
 obtain ⟨x, hx⟩ : ∃ x, w.alloc (.cells #[.slice ho hn hc, .slice ko kn kc, .int .i64 kd, .slice vo vn vc, .int .i64 pg, .int .i64 ct] 159) = x := ⟨_, rfl⟩
 have hbx : Below w.heap.size w x := by rw [← hx]; exact zac Br Lr _
 have hb6 : E6 x w.heap.size (.slice ho hn hc) (.slice ko kn kc) (.int .i64 kd) (.slice vo vn vc) (.int .i64 pg) (.int .i64 ct) := by rw [← hx]; exact E6.box w _ _ _ _ _ _
 obtain ⟨s, hs⟩ : ∃ s, w.heap.size = s := ⟨_, rfl⟩
 rw [hs] at hb6
 have HB6 := zaa hb6
 obtain ⟨b0, b1, b2, b3, b4, b5⟩ := hb6.cells
 have HO : Hid (OwnB x B v l) := zaa (hown.on Lr hbx)
 have HK : Hid (Sl x ko kn kc key) := zaa (hk.on Lr hbx)
 have HH : Hid (Sl x ho hn hc h) := zaa (hh.on Lr hbx)
 have HV : Hid (Sl x vo vn vc val) := zaa (hv.on Lr hbx)
 have HG : Hid (Gs w v x v) := zaa (Gs.ofBelow v hbx)
 have hBx : B ≤ x.heap.size := zN hB hbx.size
 have HFH := zaa fh
 have HFK := zaa fk
 have HFV := zaa fv
 have HR := zaa (erest_any ho hn hc ko kn kc kd vo vn vc pg ct h key n x HH.out HK.out hnl)
 have HLK : Hid (h.length = hn ∧ key.length = kn ∧ val.length = vn) := zaa ⟨hh.hlen, hk.hlen, hv.hlen⟩
 clear hown hh hk hv fh fk fv hbx hb6
 unfold eV at HR ⊢
 go_enter Tryz.func198, Tryz.ntmps198
 go_wp2_with (go_at_call 226; refine HR.out.mono ?_; rintro e w1 ⟨a1, n1, c1, a2, n2, c2, l1, l2, rfl, HB1, HQ⟩; refine Hid.out ?_)
 apply zaa
 obtain ⟨q1, q2, q3, q4, q5, q6, q7⟩ := HQ.out
 have G1 : Gs x v w1 v := Gs.ofBelow v HB1.out
 have HG1 : Hid (Gs w v w1 v) := zaa (HG.out.trans G1)
 have H61 : Hid (E6 w1 s (.slice ho hn hc) (.slice ko kn kc) (.int .i64 kd) (.slice vo vn vc) (.int .i64 pg) (.int .i64 ct)) := zaa (zaf HB6.out HB1.out)
 have HO1 : Hid (OwnB w1 B v l) := zaa (HO.out.on Lr HB1.out)
 have HV1 : Hid (Sl w1 vo vn vc val) := zaa (HV.out.on Lr HB1.out)
 have hB1 : B ≤ w1.heap.size := zN hBx HB1.out.size
 have F1 : Far a1 n1 v := RestTo.far (w := w) HFH.out q4 q6 rfl
 have F2 : Far a2 n2 v := RestTo.far (w := w) HFK.out q5 q7 rfl
 have HS1 := zaa q1
 have HS2 := zaa q2
 have HLL := zaa q3
 have HF1 := zaa F1
 have HF2 := zaa F2
 have hn1 : n1 + n2 ≤ hn + kn := by omega
 have j1 : (n1 : Int) ≤ 35184372088832 := by omega
 have j2 : (n2 : Int) ≤ 35184372088832 := by omega
 have HL12 : Hid (l1.length = n1 ∧ l2.length = n2) := zaa ⟨q1.hlen, q2.hlen⟩
 clear HR HQ q1 q2 q3 q4 q5 q6 q7 G1 F1 F2 HB1 HB6 HH HK HV HO HG b0 b1 b2 b3 b4 b5 hx
 obtain ⟨b0, b1, b2, b3, b4, b5⟩ := H61.out.cells
 obtain ⟨y, hy⟩ : ∃ y, w1.alloc (.cells #[.int .u8 (kd % 256)] 5) = y := ⟨_, rfl⟩
 have hby : Below w1.heap.size w1 y := by rw [← hy]; exact zac Br Lr _
 have HY1 : Hid (Sl y (some ⟨w1.heap.size, 0, none⟩) 1 1 [kd % 256]) := zaa (by rw [← hy]; exact sl_one w1 _ (by omega))
 have HYO : Hid (OwnB y B v l) := zaa (HO1.out.on Lr hby)
 have hBy : B ≤ y.heap.size := zN hB1 hby.size
 have HGY := zaa (Gs.ofBelow v hby)
 have HBY := zaa hby
 clear hby
 go_wp2_with (at_builtin; refine zcm _ rfl _ _ rfl B l [kd % 256] v (some ⟨w1.heap.size, 0, none⟩) 1 1 rfl rfl HYO.out HY1.out (by omega) hBy ?_; refine Hid.out ?_)
 apply zaa
 intro v2 w2 ho2 g2
 have G2 : Gs w1 v w2 v2 := HGY.out.trans g2
 have HG2 := zaa (HG1.out.trans G2)
 have H62 := zaa (H61.out.gr G2.toGr (HO1.out.apart6 H61.out))
 have HO2 := zaa ho2
 have HV2 := zaa (HV1.out.gr G2.toGr HFV.out)
 have HS12 := zaa (HS1.out.gr G2.toGr HF1.out)
 have HS22 := zaa (HS2.out.gr G2.toGr HF2.out)
 have HF12 := zaa (HF1.out.gr HS1.out G2.toGr)
 have HF22 := zaa (HF2.out.gr HS2.out G2.toGr)
 have HFV2 := zaa (HFV.out.gr HV1.out G2.toGr)
 have hB2 : B ≤ w2.heap.size := zN hB1 G2.grow.size
 clear ho2 g2 G2 HGY HY1 HYO HBY hBy b0 b1 b2 b3 b4 b5 H61 HO1 HV1 HS1 HS2 HF1 HF2 HFV HG1 hy
 obtain ⟨b0, b1, b2, b3, b4, b5⟩ := H62.out.cells
 obtain ⟨M, hM⟩ : ∃ M, n1 + n2 = M := ⟨_, rfl⟩
 have hMI : (n1 : Int) + (n2 : Int) = (M : Int) := by omega
 have hMb : (M : Int) ≤ 35184372088832 := by omega
 have hMw : IntKind.u64.wrap (M : Int) = (M : Int) := by rw [IntKind.wrap_u64]; omega
 have HU := zaa (zcl (M : Int) w2 (by omega) (by omega))
 have HML : Hid (((h ++ key).drop n).length = M) := zaa (by rw [← HLL.out, zG, HL12.out.1, HL12.out.2]; exact hM)
 clear hM
 go_wp2_with (go_at_call 227; refine HU.out.mono ?_; rintro e w3 ⟨u3, rfl, ho3, hb3⟩; refine Hid.out ?_)
 apply zaa
 obtain ⟨ua, um, uc, rfl, us3, hum⟩ := ho3.slu (by omega) (by omega)
 have G3 : Gs w2 v2 w3 v2 := Gs.ofBelow v2 hb3
 have HO3 : Hid (OwnB w3 B v2 (l ++ [kd % 256])) := zaa (HO2.out.on Lr hb3)
 have HU3 := zaa us3
 have hB3 : B ≤ w3.heap.size := zN hB2 hb3.size
 have HG3 := zaa G3
 clear ho3 us3 hb3 G3 HU
 go_wp2_with (at_builtin; refine zcm _ rfl _ _ rfl B (l ++ [kd % 256]) (uB (M : Int)) v2 ua um uc rfl rfl HO3.out HU3.out (by simp; omega) hB3 ?_; refine Hid.out ?_)
 apply zaa
 intro v4 w4 ho4 g4
 have G4 : Gs w2 v2 w4 v4 := HG3.out.trans g4
 have HG4 := zaa (HG2.out.trans G4)
 have H64 := zaa (H62.out.gr G4.toGr (HO2.out.apart6 H62.out))
 have HO4 := zaa ho4
 have HV4 := zaa (HV2.out.gr G4.toGr HFV2.out)
 have HS14 := zaa (HS12.out.gr G4.toGr HF12.out)
 have HS24 := zaa (HS22.out.gr G4.toGr HF22.out)
 have HF14 := zaa (HF12.out.gr HS12.out G4.toGr)
 have HF24 := zaa (HF22.out.gr HS22.out G4.toGr)
 have HFV4 := zaa (HFV2.out.gr HV2.out G4.toGr)
 have hB4 : B ≤ w4.heap.size := zN hB2 G4.grow.size
 clear ho4 g4 G4 HG3 HO3 HU3 hB3 b0 b1 b2 b3 b4 b5 H62 HO2 HV2 HS12 HS22 HF12 HF22 HFV2 HG2
 obtain ⟨b0, b1, b2, b3, b4, b5⟩ := H64.out.cells
 obtain ⟨L4, hL4⟩ : ∃ L, l ++ [kd % 256] ++ uB (M : Int) = L := ⟨_, rfl⟩
 have hll4 : L4.length ≤ l.length + 11 := by
  have := (zas (M : Int)).1
  rw [← hL4]
  simp only [zG, List.length_cons, List.length_nil]
  omega
 replace HO4 : Hid (OwnB w4 B v4 L4) := zaa (by rw [← hL4]; simpa using HO4.out)
 have HL4 := zaa hL4
 clear hL4
 go_wp2_with (at_builtin; refine zcm _ rfl _ _ rfl B L4 l1 v4 a1 n1 c1 rfl rfl HO4.out HS14.out (by omega) hB4 ?_; refine Hid.out ?_)
 apply zaa
 intro v5 w5 ho5 g5
 have HG5 := zaa (HG4.out.trans g5)
 have H65 := zaa (H64.out.gr g5.toGr (HO4.out.apart6 H64.out))
 have HO5 := zaa ho5
 have HV5 := zaa (HV4.out.gr g5.toGr HFV4.out)
 have HS25 := zaa (HS24.out.gr g5.toGr HF24.out)
 have HF25 := zaa (HF24.out.gr HS24.out g5.toGr)
 have HFV5 := zaa (HFV4.out.gr HV4.out g5.toGr)
 have hB5 : B ≤ w5.heap.size := zN hB4 g5.grow.size
 clear ho5 g5 b0 b1 b2 b3 b4 b5 H64 HO4 HV4 HS14 HS24 HF14 HF24 HFV4 HG4
 have hll5 : (L4 ++ l1).length + n2 ≤ 140737488355328 := by rw [zG, HL12.out.1]; omega
 go_wp2_with (at_builtin; refine zcm _ rfl _ _ rfl B (L4 ++ l1) l2 v5 a2 n2 c2 rfl rfl HO5.out HS25.out hll5 hB5 ?_; refine Hid.out ?_)
 apply zaa
 intro v6 w6 ho6 g6
 have HG6 := zaa (HG5.out.trans g6)
 have H66 := zaa (H65.out.gr g6.toGr (HO5.out.apart6 H65.out))
 have HO6 := zaa ho6
 have HV6 := zaa (HV5.out.gr g6.toGr HFV5.out)
 have HFV6 := zaa (HFV5.out.gr HV5.out g6.toGr)
 have hB6 : B ≤ w6.heap.size := zN hB5 g6.grow.size
 clear ho6 g6 H65 HO5 HV5 HS25 HF25 HFV5 HG5
 obtain ⟨b0, b1, b2, b3, b4, b5⟩ := H66.out.cells
 obtain ⟨L6, hL6⟩ : ∃ L, L4 ++ l1 ++ l2 = L := ⟨_, rfl⟩
 have hll6 : L6.length ≤ l.length + 11 + (hn + kn) := by
  rw [← hL6]
  simp only [zG, HL12.out.1, HL12.out.2]
  omega
 replace HO6 : Hid (OwnB w6 B v6 L6) := zaa (by rw [← hL6]; simpa using HO6.out)
 have HQB : Hid (∀ T, (if kd = 1 then uB (val.length : Int) ++ val else uB (pg % 18446744073709551616) ++ uB (ct % 18446744073709551616)) = T → l ++ qB n ⟨h ++ key, kd, val, pg, ct⟩ = L6 ++ T) := zaa (by
  intro T hT
  unfold qB
  simp only [hT]
  rw [← hL6, ← HL4.out, ← HLL.out]
  have e : (h ++ key).length - n = M := by have := HML.out; rwa [zK] at this
  rw [e]
  simp only [zM])
 clear hL6 HL4 HLL HL12 HML
 have hln : (vn : Int) ≤ 35184372088832 := by omega
 by_cases hk1 : kd = 1
 ·subst hk1
  have hVw : IntKind.u64.wrap (vn : Int) = (vn : Int) := by rw [IntKind.wrap_u64]; omega
  have HU := zaa (zcl (vn : Int) w6 (by omega) (by omega))
  go_wp2_with (go_at_call 227; refine HU.out.mono ?_; rintro e w7 ⟨u7, rfl, ho7, hb7⟩; refine Hid.out ?_)
  apply zaa
  obtain ⟨ua, um, uc, rfl, us7, hum⟩ := ho7.slu (by omega) (by omega)
  have HG7 := zaa (Gs.ofBelow v6 hb7)
  have HO7 : Hid (OwnB w7 B v6 L6) := zaa (HO6.out.on Lr hb7)
  have HU7 := zaa us7
  have hB7 : B ≤ w7.heap.size := zN hB6 hb7.size
  clear ho7 us7 hb7 HU
  go_wp2_with (at_builtin; refine zcm _ rfl _ _ rfl B L6 (uB (vn : Int)) v6 ua um uc rfl rfl HO7.out HU7.out (by omega) hB7 ?_; refine Hid.out ?_)
  apply zaa
  intro v8 w8 ho8 g8
  have G8 : Gs w6 v6 w8 v8 := HG7.out.trans g8
  have HG8 := zaa (HG6.out.trans G8)
  have H68 := zaa (H66.out.gr G8.toGr (HO6.out.apart6 H66.out))
  have HO8 := zaa ho8
  have HV8 := zaa (HV6.out.gr G8.toGr HFV6.out)
  have hB8 : B ≤ w8.heap.size := zN hB6 G8.grow.size
  clear ho8 g8 G8 HG7 HO7 HU7 b0 b1 b2 b3 b4 b5 H66 HO6 HV6 HFV6 HG6
  obtain ⟨b0, b1, b2, b3, b4, b5⟩ := H68.out.cells
  have hll8 : (L6 ++ uB (vn : Int)).length + vn ≤ 140737488355328 := by
   have := (zas (vn : Int)).1
   rw [zG]
   omega
  go_wp2_with (at_builtin; refine zcm _ rfl _ _ rfl B (L6 ++ uB (vn : Int)) val v8 vo vn vc rfl rfl HO8.out HV8.out hll8 hB8 ?_; refine Hid.out ?_)
  apply zaa
  intro v9 w9 ho9 g9
  have HG9 := zaa (HG8.out.trans g9)
  have HO9 : Hid (OwnB w9 B v9 (l ++ qB n ⟨h ++ key, 1, val, pg, ct⟩)) := zaa (by
   rw [HQB.out (uB (vn : Int) ++ val) (by simp [HLK.out.2.2])]
   simpa using ho9)
  clear ho9 g9
  go_wp2
  go_ret
  exact ⟨v9, rfl, HO9, HG9⟩
 ·obtain ⟨P, hP⟩ : ∃ P, pg % 18446744073709551616 = P := ⟨_, rfl⟩
  obtain ⟨C, hC⟩ : ∃ C, ct % 18446744073709551616 = C := ⟨_, rfl⟩
  have hPw : IntKind.u64.wrap pg = P := by rw [IntKind.wrap_u64, hP]
  have hCw : IntKind.u64.wrap ct = C := by rw [IntKind.wrap_u64, hC]
  have HT := zaa (HQB.out (uB P ++ uB C) (by rw [if_neg hk1, hP, hC]))
  have HU := zaa (zcl P w6 (by omega) (by omega))
  have hP1 : 0 ≤ P ∧ P < 18446744073709551616 := by omega
  have hC1 : 0 ≤ C ∧ C < 18446744073709551616 := by omega
  clear hP hC HQB
  have hk1b : (kd == 1) = false := by simpa using hk1
  go_wp2_with (go_at_call 227; refine HU.out.mono ?_; rintro e w7 ⟨u7, rfl, ho7, hb7⟩; refine Hid.out ?_)
  apply zaa
  obtain ⟨ua, um, uc, rfl, us7, hum⟩ := ho7.slu hP1.1 hP1.2
  have HG7 := zaa (Gs.ofBelow v6 hb7)
  have HO7 : Hid (OwnB w7 B v6 L6) := zaa (HO6.out.on Lr hb7)
  have HU7 := zaa us7
  have hB7 : B ≤ w7.heap.size := zN hB6 hb7.size
  clear ho7 us7 hb7 HU
  go_wp2_with (at_builtin; refine zcm _ rfl _ _ rfl B L6 (uB P) v6 ua um uc rfl rfl HO7.out HU7.out (by omega) hB7 ?_; refine Hid.out ?_)
  apply zaa
  intro v8 w8 ho8 g8
  have G8 : Gs w6 v6 w8 v8 := HG7.out.trans g8
  have HG8 := zaa (HG6.out.trans G8)
  have H68 := zaa (H66.out.gr G8.toGr (HO6.out.apart6 H66.out))
  have HO8 := zaa ho8
  have hB8 : B ≤ w8.heap.size := zN hB6 G8.grow.size
  clear ho8 g8 G8 HG7 HO7 HU7 b0 b1 b2 b3 b4 b5 H66 HO6 HV6 HFV6 HG6
  obtain ⟨b0, b1, b2, b3, b4, b5⟩ := H68.out.cells
  have HU := zaa (zcl C w8 hC1.1 hC1.2)
  go_wp2_with (go_at_call 227; refine HU.out.mono ?_; rintro e w9 ⟨u9, rfl, ho9, hb9⟩; refine Hid.out ?_)
  apply zaa
  obtain ⟨ua, um9, uc, rfl, us9, hum9⟩ := ho9.slu hC1.1 hC1.2
  have HG9 := zaa (HG8.out.trans (Gs.ofBelow v8 hb9))
  have HO9 : Hid (OwnB w9 B v8 (L6 ++ uB P)) := zaa (HO8.out.on Lr hb9)
  have HU9 := zaa us9
  have hB9 : B ≤ w9.heap.size := zN hB8 hb9.size
  clear ho9 us9 hb9 HU
  have hll9 : (L6 ++ uB P).length + um9 ≤ 140737488355328 := by
   have := (zas P).1
   rw [zG]
   omega
  go_wp2_with (at_builtin; refine zcm _ rfl _ _ rfl B (L6 ++ uB P) (uB C) v8 ua um9 uc rfl rfl HO9.out HU9.out hll9 hB9 ?_; refine Hid.out ?_)
  apply zaa
  intro vA wA hoA gA
  have HGA := zaa (HG9.out.trans gA)
  have HOA : Hid (OwnB wA B vA (l ++ qB n ⟨h ++ key, kd, val, pg, ct⟩)) := zaa (by
   rw [HT.out]
   simpa using hoA)
  clear hoA gA
  go_wp2
  go_ret
  exact ⟨vA, rfl, HOA, HGA⟩
end Go.Proofs.YtofafbmpbkjhnaaGreatDoor
