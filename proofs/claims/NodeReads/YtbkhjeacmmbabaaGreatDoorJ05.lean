import Derived.Test.YtbkhjeacmmbabaaGreatDoorJ04
import Derived.Laws.AppendOwnNone
import Derived.Maps.AppendAt
import Derived.Deep.RegionLaw
import Derived.Laws.OwnMore
namespace Go.Proofs.YtbkhjeacmmbabaaGreatDoor
set_option maxRecDepth 100000
set_option maxHeartbeats 1000000
open Go.RowKit
def UTextTo (l : List Int) (w : World) (r : Nat) (ao : Option Addr) (n cap at_ : Nat) (en : Bool) (e : Ending) (w' : World) : Prop :=
 ∃ (ko : Option Addr) (kn kc p : Nat) (en' : Bool) (t : List Int), e = .returned (.slice ko kn kc) ∧ Hid (Rdq w' r ao n cap p en') ∧ Hid (Cf (· = r) w w') ∧ Hid (Sl w' ko kn kc t ∧ (∀ q, ko = some q → ∀ o, ao = some o → q.block = o.block) ∧ (p ≤ n ∧ kn ≤ n) ∧ ((pT (l.drop at_) = some (t, l.drop p) ∧ en' = en) ∨ (pT (l.drop at_) = none ∧ en' = true)))
theorem utext_any (l : List Int) (w : World) (r g off n cap at_ : Nat) (en : Bool) (hr : Rdq w r (some ⟨g, off, none⟩) n cap at_ en) (hs : Sl w (some ⟨g, off, none⟩) n cap l) (ha : at_ ≤ n) :
  Calls Tryz.prog 165 #[.pointer (some ⟨r, 0, none⟩)] w fun e w' => UTextTo l w r (some ⟨g, off, none⟩) n cap at_ en e w' := by
 have HN := zaa (unumber_any l w r (some ⟨g, off, none⟩) n cap at_ en hr hs ha)
 have HS := zaa hs
 have HAP := zaa (hs.apartq hr)
 have hn := hs.hroom
 have hcap := hs.hcap
 clear hr hs
 go_enter Tryz.func165, Tryz.ntmps165
 go_wp2_with (go_at_call 166; refine HN.out.mono ?_; rintro e w1 ⟨v, p, en', rfl, HR, HC, HV⟩; refine Hid.out ?_)
 apply zaa
 clear HN
 obtain ⟨⟨hv0, hv1⟩, hp, hcase⟩ := HV.out
 clear HV
 have HCASE := zaa hcase
 clear hcase
 obtain ⟨m, rfl⟩ := Int.eq_ofNat_of_zero_le hv0
 have hm : (m : Int) < 18446744073709551616 := by omega
 clear hv0 hv1
 have HS1 : Hid (Sl w1 (some ⟨g, off, none⟩) n cap l) := zaa (HS.out.cf HC.out HAP.out)
 have c0 := HR.out.c0
 have c1 := HR.out.c1
 have c2 := HR.out.c2
 have f1 := HR.out.free 1
 have f2 := HR.out.free 2
 have HLEN := zaa HS.out.hlen
 by_cases h : (n : Int) - (p : Int) < (m : Int)
 ·have d1 : decide ((n : Int) - (p : Int) < (m : Int)) = true := decide_eq_true h
  have HQ : Hid (pT (l.drop at_) = none) := by
   rcases HCASE.out with ⟨h1, h2⟩ | ⟨h1, h2, h3, h4⟩
   ·refine zaa ?_
    unfold pT
    rw [h1]
    simp only
    rw [if_pos (by rw [zK, HLEN.out]; omega)]
   ·omega
  go_wp2_with fail
  go_quiet (fail)
  go_wp2
  go_ret
  exact ⟨none, 0, 0, p, true, [], rfl, zaa (Rdq.set2 (HR.out.drewN _) true), zaa ((HC.out.go (Cf.drew _ _ _)).go (Cf.set _ _ _ _)), zaa ⟨Sl.nil_any _ _ _ (fun _ => rfl), (by intro q hq; cases hq), ⟨hp, Nat.zero_le _⟩, .inr ⟨HQ.out, rfl⟩⟩⟩
 ·have d1 : decide ((n : Int) - (p : Int) < (m : Int)) = false := decide_eq_false h
  have HCASE2 : Hid (∃ tx, tx = (l.drop p).take m ∧ ((pT (l.drop at_) = some (tx, l.drop (p + m)) ∧ en' = en) ∨ (pT (l.drop at_) = none ∧ en' = true))) := by
   refine zaa ⟨(l.drop p).take m, rfl, ?_⟩
   rcases HCASE.out with ⟨h1, h2⟩ | ⟨h1, h2, h3, h4⟩
   ·left
    refine ⟨?_, h2⟩
    unfold pT
    rw [h1]
    simp only
    rw [if_neg (by rw [zK, HLEN.out]; omega), Int.toNat_natCast, List.drop_drop]
   ·right
    refine ⟨?_, h2⟩
    unfold pT
    rw [h1]
  have HAP2 : Hid (m = 0 ∨ ∀ q : Addr, some (⟨g, off + p, none⟩ : Addr) = some q → ¬ q.block = r) := by
   refine zaa ?_
   rcases HAP.out with h0 | h0
   ·exact .inl (by omega)
   ·exact .inr fun q hq => by injection hq with hq; subst hq; exact h0 ⟨g, off, none⟩ rfl
  by_cases hm0 : m = 0
  ·subst hm0
   have p2 : p ≤ cap := by omega
   have p3 : (p : Int) ≤ (cap : Int) := by omega
   have HS2 : ∀ q, Hid (Rdq ((w1.drewN q).setCell ⟨r, 1, none⟩ (.int .i64 (p : Int))) r (some ⟨g, off, none⟩) n cap p en') := fun q => zaa (Rdq.set1 (HR.out.drewN q) p)
   have x0 := fun q => (HS2 q).out.c0
   have x1 := fun q => (HS2 q).out.c1
   have HCF : Hid (∀ q q' : Nat, Cf (· = r) w (((w1.drewN q).setCell ⟨r, 1, none⟩ (.int .i64 (p : Int))).drewN q')) := zaa fun q q' => ((HC.out.go (Cf.drew _ _ _)).go (Cf.set _ _ _ _)).go (Cf.drew _ _ _)
   clear h HAP2 HCASE
   go_wp2_with fail
   go_quiet (fail)
   go_wp2_with fail
   go_quiet (fail)
   go_wp2
   go_ret
   obtain ⟨tx, htx, hcx⟩ := HCASE2.out
   rw [List.take_zero] at htx
   subst htx
   exact ⟨_, _, _, p, en', [], rfl, zaa ((HS2 _).out.drewN _), zaa (HCF.out _ _), zaa ⟨Sl.nil_any _ _ _ (by intro h; cases h), (fun q hq o ho => by injection hq with hq; injection ho with ho; subst hq ho; rfl), ⟨hp, Nat.zero_le _⟩, hcx⟩⟩
  ·obtain ⟨t, ht⟩ : ∃ t, p + m = t := ⟨_, rfl⟩
   have htI : (p : Int) + (m : Int) = (t : Int) := by omega
   have t1 : p ≤ t := by omega
   have t2 : t ≤ n := by omega
   have t3 : t ≤ cap := by omega
   have t4 : (p : Int) ≤ (t : Int) := by omega
   have t5 : (t : Int) ≤ (cap : Int) := by omega
   have t6 : t - p = m := by omega
   have t7 : ¬ t = p := by omega
   have HS2 : ∀ q, Hid (Rdq ((w1.drewN q).setCell ⟨r, 1, none⟩ (.int .i64 (t : Int))) r (some ⟨g, off, none⟩) n cap t en') := fun q => zaa (Rdq.set1 (HR.out.drewN q) t)
   have x0 := fun q => (HS2 q).out.c0
   have x1 := fun q => (HS2 q).out.c1
   have HCF : Hid (∀ q q' : Nat, Cf (· = r) w (((w1.drewN q).setCell ⟨r, 1, none⟩ (.int .i64 (t : Int))).drewN q')) := zaa fun q q' => ((HC.out.go (Cf.drew _ _ _)).go (Cf.set _ _ _ _)).go (Cf.drew _ _ _)
   have HCF1 : Hid (∀ q q' : Nat, Cf (· = r) w1 (((w1.drewN q).setCell ⟨r, 1, none⟩ (.int .i64 (t : Int))).drewN q')) := zaa fun q q' => ((Cf.drew _ _ _).go (Cf.set _ _ _ _)).go (Cf.drew _ _ _)
   have HSX := zaa (HS1.out.piece p m m (by omega) Lr)
   rw [ht] at HCASE2
   clear h HCASE ht
   go_wp2_with fail
   go_quiet (fail)
   go_wp2_with fail
   go_quiet (fail)
   go_wp2
   go_ret
   obtain ⟨tx, htx, hcx⟩ := HCASE2.out
   subst htx
   exact ⟨_, _, _, t, en', _, rfl, zaa ((HS2 _).out.drewN _), zaa (HCF.out _ _), zaa ⟨HSX.out.cf (HCF1.out _ _) HAP2.out, (fun q hq o ho => by injection hq with hq; injection ho with ho; subst hq ho; rfl), ⟨t2, by omega⟩, hcx⟩⟩
def KndTo (l : List Int) (w : World) (r : Nat) (ao : Option Addr) (n cap at_ : Nat) (en : Bool) (e : Ending) (w' : World) : Prop :=
 ∃ (v : Int) (p : Nat) (en' : Bool), e = .returned (.int .i64 v) ∧ Hid (Rdq w' r ao n cap p en') ∧ Hid (Cf (· = r) w w') ∧ Hid ((0 ≤ v ∧ v < 256) ∧ p ≤ n ∧ ((pNum 1 (l.drop at_) = some (v, l.drop p) ∧ en' = en) ∨ (pNum 1 (l.drop at_) = none ∧ en' = true ∧ v = 0 ∧ p = at_)))
theorem kind_any (l : List Int) (w : World) (r : Nat) (ao : Option Addr) (n cap at_ : Nat) (en : Bool) (hr : Rdq w r ao n cap at_ en) (hs : Sl w ao n cap l) (ha : at_ ≤ n) :
  Calls Tryz.prog 164 #[.pointer (some ⟨r, 0, none⟩)] w fun e w' => KndTo l w r ao n cap at_ en e w' := by
 have c0 := hr.c0
 have c1 := hr.c1
 have c2 := hr.c2
 have f1 := hr.free 1
 have f2 := hr.free 2
 have hn := hs.hroom
 have HR := zaa hr
 have hlen := hs.hlen
 by_cases h : 1 ≤ n - at_
 ·have HF : Hid (∀ q, Calls Tryz.prog 172 #[.slice ao n cap, .int .i64 (at_ : Int), .int .i64 1] (w.drewN q) fun e w' => e = .returned (.tuple #[.int .u64 (rdB ((l.drop at_).take 1)), .int .i64 0]) ∧ w' = w.drewN q) :=
   zaa fun q => by simpa using readFixed_ok ao n cap l (at_ : Int) 1 (w.drewN q) (hs.drewN q) (by omega) (by omega) (by omega) (by omega)
  have hp : pNum 1 (l.drop at_) = some (rdB ((l.drop at_).take 1), l.drop (at_ + 1)) := by
   unfold pNum
   rw [if_neg (by rw [zK]; omega), List.drop_drop]
  have hb := zdo ((l.drop at_).take 1) ((hs.wf.drop at_).take 1)
  rw [show ((l.drop at_).take 1).length = 1 from by rw [zJ, zK]; omega] at hb
  have HB := zaa hb
  have hb8 : rdB ((l.drop at_).take 1) < 256 := by omega
  generalize rdB ((l.drop at_).take 1) = v at *
  have hv0 := hb.1
  have HP := zaa hp
  clear hp hb hs
  have hw : wrap64 v = v := by simp [wrap64]; omega
  have HS : ∀ q, Hid (Rdq ((w.drewN q).setCell ⟨r, 1, none⟩ (.int .i64 ((at_ + 1 : Nat) : Int))) r ao n cap (at_ + 1) en) := fun q => zaa (Rdq.set1 (HR.out.drewN q) (at_ + 1))
  go_enter Tryz.func164, Tryz.ntmps164
  go_wp2_with fail
  go_quiet (first | (go_at_call 172; exact Calls.quiet_of_same (HF.out _)))
  go_wp2
  go_ret
  exact ⟨v, at_ + 1, en, rfl, by simpa using HS _, zaa ((Cf.drew _ _ _).go (Cf.set _ _ _ _)), zaa ⟨⟨hv0, hb8⟩, by omega, .inl ⟨HP.out, rfl⟩⟩⟩
 ·have HF : Hid (∀ q, Calls Tryz.prog 172 #[.slice ao n cap, .int .i64 (at_ : Int), .int .i64 1] (w.drewN q) fun e w' => e = .returned (.tuple #[.int .u64 0, .int .i64 10]) ∧ w' = w.drewN q) :=
   zaa fun q => by simpa using zej ao n cap (at_ : Int) 1 (w.drewN q) (by omega) (by omega) (by omega) (by omega) (by omega)
  have hp : pNum 1 (l.drop at_) = none := by
   unfold pNum
   rw [if_pos (by rw [zK]; omega)]
  have HP := zaa hp
  clear hp hs
  go_enter Tryz.func164, Tryz.ntmps164
  go_wp2_with fail
  go_quiet (first | (go_at_call 172; exact Calls.quiet_of_same (HF.out _)))
  go_wp2
  go_ret
  exact ⟨0, at_, true, rfl, zaa (Rdq.set2 (HR.out.drewN _) true), zaa ((Cf.drew _ _ _).go (Cf.set _ _ _ _)), zaa ⟨⟨by omega, by omega⟩, ha, .inr ⟨HP.out, rfl, rfl, rfl⟩⟩⟩
theorem Rdq.cf {w w' : World} {r : Nat} {ao : Option Addr} {n cap at_ : Nat} {en : Bool} {F : Nat → Prop} (h : Rdq w r ao n cap at_ en) (hc : Cf F w w') (hg : ¬ F r) : Rdq w' r ao n cap at_ en := (hc.block r h.lt hg).trans h
structure Csq (w u : World) (k r g off n cap p : Nat) (en : Bool) (l : List Int) (x0 x1 x2 x3 x4 : Value) : Prop where
 rd : Rdq u r (some ⟨g, off, none⟩) n cap p en
 sl : Sl u (some ⟨g, off, none⟩) n cap l
 c2 : C5 u k (.slice none 0 0) (.int .i64 0) (.slice none 0 0) (.int .i64 0) (.int .i64 0)
 c3 : C5 u (k + 1) x0 x1 x2 x3 x4
 cf : Cf (· = r) w u
 hk : k = w.heap.size
 hp : p ≤ n
theorem Csq.r_lt {w u : World} {k r g off n cap p : Nat} {en : Bool} {l : List Int} {x0 x1 x2 x3 x4 : Value} (h : Csq w u k r g off n cap p en l x0 x1 x2 x3 x4) (hr : r < w.heap.size) : ¬ k = r ∧ ¬ k + 1 = r := by
 have := h.hk
 omega
theorem Csq.kind {w u : World} {k r g off n cap p : Nat} {en : Bool} {l : List Int} {x0 x1 x2 x3 x4 : Value} (h : Csq w u k r g off n cap p en l x0 x1 x2 x3 x4) (hr : r < w.heap.size) :
  Calls Tryz.prog 164 #[.pointer (some ⟨r, 0, none⟩)] u fun e w' => ∃ (v : Int) (p' : Nat) (en' : Bool), e = .returned (.int .i64 v) ∧ Hid (Csq w w' k r g off n cap p' en' l x0 x1 x2 x3 x4) ∧ Hid ((pNum 1 (l.drop p) = some (v, l.drop p') ∧ en' = en) ∨ (pNum 1 (l.drop p) = none ∧ en' = true)) ∧ Hid (Cf (· = r) u w') := by
 refine (kind_any l u r _ n cap p en h.rd h.sl h.hp).mono ?_
 rintro e w' ⟨v, p', en', rfl, HR, HC, HV⟩
 obtain ⟨h1, h2⟩ := h.r_lt hr
 obtain ⟨_, hp, hv⟩ := HV.out
 refine ⟨v, p', en', rfl, zaa ⟨HR.out, h.sl.cf HC.out (h.sl.apartq h.rd), h.c2.cf HC.out h1, h.c3.cf HC.out h2, h.cf.go HC.out, h.hk, hp⟩, zaa ?_, HC⟩
 rcases hv with ⟨a, b⟩ | ⟨a, b, c, d⟩
 ·exact .inl ⟨a, b⟩
 ·exact .inr ⟨a, b⟩
theorem Csq.unumber {w u : World} {k r g off n cap p : Nat} {en : Bool} {l : List Int} {x0 x1 x2 x3 x4 : Value} (h : Csq w u k r g off n cap p en l x0 x1 x2 x3 x4) (hr : r < w.heap.size) :
  Calls Tryz.prog 166 #[.pointer (some ⟨r, 0, none⟩)] u fun e w' => ∃ (v : Int) (p' : Nat) (en' : Bool), e = .returned (.int .u64 v) ∧ Hid (Csq w w' k r g off n cap p' en' l x0 x1 x2 x3 x4) ∧ Hid ((pU (l.drop p) = some (v, l.drop p') ∧ en' = en) ∨ (pU (l.drop p) = none ∧ en' = true)) ∧ Hid (Cf (· = r) u w') := by
 refine (unumber_any l u r _ n cap p en h.rd h.sl h.hp).mono ?_
 rintro e w' ⟨v, p', en', rfl, HR, HC, HV⟩
 obtain ⟨h1, h2⟩ := h.r_lt hr
 obtain ⟨_, hp, hv⟩ := HV.out
 refine ⟨v, p', en', rfl, zaa ⟨HR.out, h.sl.cf HC.out (h.sl.apartq h.rd), h.c2.cf HC.out h1, h.c3.cf HC.out h2, h.cf.go HC.out, h.hk, hp⟩, zaa ?_, HC⟩
 rcases hv with ⟨a, b⟩ | ⟨a, b, c, d⟩
 ·exact .inl ⟨a, b⟩
 ·exact .inr ⟨a, b⟩
theorem Csq.text {w u : World} {k r g off n cap p : Nat} {en : Bool} {l : List Int} {x0 x1 x2 x3 x4 : Value} (h : Csq w u k r g off n cap p en l x0 x1 x2 x3 x4) (hr : r < w.heap.size) :
  Calls Tryz.prog 165 #[.pointer (some ⟨r, 0, none⟩)] u fun e w' => ∃ (ko : Option Addr) (kn kc p' : Nat) (en' : Bool) (t : List Int), e = .returned (.slice ko kn kc) ∧ Hid (Csq w w' k r g off n cap p' en' l x0 x1 x2 x3 x4) ∧ Hid (Sl w' ko kn kc t ∧ (∀ q, ko = some q → q.block = g) ∧ kn ≤ n) ∧ Hid ((pT (l.drop p) = some (t, l.drop p') ∧ en' = en) ∨ (pT (l.drop p) = none ∧ en' = true)) ∧ Hid (Cf (· = r) u w') := by
 refine (utext_any l u r g off n cap p en h.rd h.sl h.hp).mono ?_
 rintro e w' ⟨ko, kn, kc, p', en', t, rfl, HR, HC, HV⟩
 obtain ⟨h1, h2⟩ := h.r_lt hr
 obtain ⟨hs, hloc, ⟨hp, hkn⟩, hv⟩ := HV.out
 exact ⟨ko, kn, kc, p', en', t, rfl, zaa ⟨HR.out, h.sl.cf HC.out (h.sl.apartq h.rd), h.c2.cf HC.out h1, h.c3.cf HC.out h2, h.cf.go HC.out, h.hk, hp⟩, zaa ⟨hs, fun q hq => hloc q hq _ rfl, hkn⟩, zaa hv, HC⟩
theorem Csq.store {w u : World} {k r g off n cap p : Nat} {en : Bool} {l : List Int} {a b : Option Addr} {c d e f : Nat} {x y z : Int} (h : Csq w u k r g off n cap p en l (.slice a c d) (.int .i64 x) (.slice b e f) (.int .i64 y) (.int .i64 z)) (hr : r < w.heap.size) (i : Nat) (v : Value) {y0 y1 y2 y3 y4 : Value} (hy : C5 (u.setCell ⟨k + 1, i, none⟩ v) (k + 1) y0 y1 y2 y3 y4) :
  Csq w (u.setCell ⟨k + 1, i, none⟩ v) k r g off n cap p en l y0 y1 y2 y3 y4 := by
 obtain ⟨h1, h2⟩ := h.r_lt hr
 have hc := Cf.set u (k + 1) i v
 refine ⟨h.rd.cf hc (by omega), h.sl.cf hc (h.sl.apart5 h.c3), h.c2.cf hc (by omega), hy, ?_, h.hk, h.hp⟩
 refine h.cf.trans hc ?_
 intro j hj e
 have := h.hk
 omega
def UCellTo (l : List Int) (w : World) (r g off n cap at_ : Nat) (en : Bool) (e : Ending) (w' : World) : Prop :=
 ∃ (ko : Option Addr) (kn kc : Nat) (kd : Int) (vo : Option Addr) (vn vc : Nat) (pg ct : Int) (p : Nat) (en' : Bool) (key val : List Int), e = .returned (.agg #[.slice ko kn kc, .int .i64 kd, .slice vo vn vc, .int .i64 pg, .int .i64 ct]) ∧ Hid (Rdq w' r (some ⟨g, off, none⟩) n cap p en') ∧ Hid (Cf (· = r) w w') ∧
  Hid (Sl w' ko kn kc key ∧ Sl w' vo vn vc val ∧ (∀ q, ko = some q → q.block = g) ∧ (∀ q, vo = some q → q.block = g) ∧ (p ≤ n ∧ kn ≤ n) ∧ ((pC (l.drop at_) = some (⟨key, kd, val, pg, ct⟩, l.drop p) ∧ en' = en) ∨ (pC (l.drop at_) = none ∧ en' = true)))
theorem ucellV {l : List Int} {a p1 p2 p3 : Nat} {en e1 e2 e3 : Bool} {key val : List Int} (h1 : (pNum 1 (l.drop a) = some (1, l.drop p1) ∧ e1 = en) ∨ (pNum 1 (l.drop a) = none ∧ e1 = true))
  (h2 : (pT (l.drop p1) = some (key, l.drop p2) ∧ e2 = e1) ∨ (pT (l.drop p1) = none ∧ e2 = true)) (h3 : (pT (l.drop p2) = some (val, l.drop p3) ∧ e3 = e2) ∨ (pT (l.drop p2) = none ∧ e3 = true)) :
  (pC (l.drop a) = some (⟨key, 1, val, 0, 0⟩, l.drop p3) ∧ e3 = en) ∨ (pC (l.drop a) = none ∧ e3 = true) := by
 unfold pC
 rcases h1 with ⟨h1, rfl⟩ | ⟨h1, rfl⟩
 ·rw [h1]
  simp only
  rcases h2 with ⟨h2, rfl⟩ | ⟨h2, rfl⟩
  ·rw [h2]
   simp only [if_true]
   rcases h3 with ⟨h3, rfl⟩ | ⟨h3, rfl⟩
   ·rw [h3]; exact .inl ⟨rfl, rfl⟩
   ·rw [h3]; exact .inr ⟨rfl, rfl⟩
  ·rw [h2]
   refine .inr ⟨rfl, ?_⟩
   rcases h3 with ⟨_, h⟩ | ⟨_, h⟩ <;> exact h
 ·rw [h1]
  refine .inr ⟨rfl, ?_⟩
  rcases h2 with ⟨_, rfl⟩ | ⟨_, rfl⟩ <;> rcases h3 with ⟨_, h⟩ | ⟨_, h⟩ <;> exact h
theorem ucellN {l : List Int} {a p1 p2 p3 p4 : Nat} {en e1 e2 e3 e4 : Bool} {key : List Int} {kd pg ct : Int} (hk : kd ≠ 1) (h1 : (pNum 1 (l.drop a) = some (kd, l.drop p1) ∧ e1 = en) ∨ (pNum 1 (l.drop a) = none ∧ e1 = true))
  (h2 : (pT (l.drop p1) = some (key, l.drop p2) ∧ e2 = e1) ∨ (pT (l.drop p1) = none ∧ e2 = true)) (h3 : (pU (l.drop p2) = some (pg, l.drop p3) ∧ e3 = e2) ∨ (pU (l.drop p2) = none ∧ e3 = true))
  (h4 : (pU (l.drop p3) = some (ct, l.drop p4) ∧ e4 = e3) ∨ (pU (l.drop p3) = none ∧ e4 = true)) :
  (pC (l.drop a) = some (⟨key, kd, [], wrap64 pg, wrap64 ct⟩, l.drop p4) ∧ e4 = en) ∨ (pC (l.drop a) = none ∧ e4 = true) := by
 unfold pC
 rcases h1 with ⟨h1, rfl⟩ | ⟨h1, rfl⟩
 ·rw [h1]
  simp only
  rcases h2 with ⟨h2, rfl⟩ | ⟨h2, rfl⟩
  ·rw [h2]
   simp only [if_neg hk]
   rcases h3 with ⟨h3, rfl⟩ | ⟨h3, rfl⟩
   ·rw [h3]
    simp only
    rcases h4 with ⟨h4, rfl⟩ | ⟨h4, rfl⟩
    ·rw [h4]; exact .inl ⟨rfl, rfl⟩
    ·rw [h4]; exact .inr ⟨rfl, rfl⟩
   ·rw [h3]
    refine .inr ⟨rfl, ?_⟩
    rcases h4 with ⟨_, h⟩ | ⟨_, h⟩ <;> exact h
  ·rw [h2]
   refine .inr ⟨rfl, ?_⟩
   rcases h3 with ⟨_, rfl⟩ | ⟨_, rfl⟩ <;> rcases h4 with ⟨_, h⟩ | ⟨_, h⟩ <;> exact h
 ·rw [h1]
  refine .inr ⟨rfl, ?_⟩
  rcases h2 with ⟨_, rfl⟩ | ⟨_, rfl⟩ <;> rcases h3 with ⟨_, rfl⟩ | ⟨_, rfl⟩ <;> rcases h4 with ⟨_, h⟩ | ⟨_, h⟩ <;> exact h
theorem Csq.fin {w u : World} {k r g off n cap p at_ : Nat} {en en' : Bool} {l : List Int} {ko vo : Option Addr} {kn kc vn vc : Nat} {kd pg ct : Int} (h : Csq w u k r g off n cap p en' l (.slice ko kn kc) (.int .i64 kd) (.slice vo vn vc) (.int .i64 pg) (.int .i64 ct)) (hr : r < w.heap.size) {key val : List Int}
  (hk : Sl u ko kn kc key) (hv : Sl u vo vn vc val) (hloc : ∀ q, ko = some q → q.block = g) (hlocV : ∀ q, vo = some q → q.block = g) (hkn : kn ≤ n) (hc : (pC (l.drop at_) = some (⟨key, kd, val, pg, ct⟩, l.drop p) ∧ en' = en) ∨ (pC (l.drop at_) = none ∧ en' = true)) :
  UCellTo l w r g off n cap at_ en (.returned (.agg #[.slice ko kn kc, .int .i64 kd, .slice vo vn vc, .int .i64 pg, .int .i64 ct])) (put5 u k (.slice ko kn kc) (.int .i64 kd) (.slice vo vn vc) (.int .i64 pg) (.int .i64 ct)) := by
 obtain ⟨h1, h2⟩ := h.r_lt hr
 have hf := zas u k (.slice ko kn kc) (.int .i64 kd) (.slice vo vn vc) (.int .i64 pg) (.int .i64 ct)
 refine ⟨ko, kn, kc, kd, vo, vn, vc, pg, ct, p, en', key, val, rfl, zaa (h.rd.cf hf (by omega)), zaa (h.cf.trans hf ?_), zaa ⟨hk.cf hf (hk.apart5 h.c2), hv.cf hf (hv.apart5 h.c2), hloc, hlocV, ⟨h.hp, hkn⟩, hc⟩⟩
 intro j hj e
 have := h.hk
 omega
theorem ucell_any (l : List Int) (w : World) (r g off n cap at_ : Nat) (en : Bool) (hr : Rdq w r (some ⟨g, off, none⟩) n cap at_ en) (hs : Sl w (some ⟨g, off, none⟩) n cap l) (ha : at_ ≤ n) :
  Calls Tryz.prog 129 #[.pointer (some ⟨r, 0, none⟩)] w fun e w' => UCellTo l w r g off n cap at_ en e w' := by
 have hrl := hr.lt
 obtain ⟨k, hk⟩ : ∃ k, w.heap.size = k := ⟨_, rfl⟩
 obtain ⟨u, hu⟩ : ∃ u, (w.alloc (.cells #[.slice none 0 0, .int .i64 0, .slice none 0 0, .int .i64 0, .int .i64 0] 50)).alloc (.cells #[.slice none 0 0, .int .i64 0, .slice none 0 0, .int .i64 0, .int .i64 0] 50) = u := ⟨_, rfl⟩
 have HC0 : Hid (Csq w u k r g off n cap at_ en l (.slice none 0 0) (.int .i64 0) (.slice none 0 0) (.int .i64 0) (.int .i64 0)) := by
  have hc : Cf (· = r) w u := by rw [← hu]; exact (Cf.alloc _ _ _).go (Cf.alloc _ _ _)
  refine zaa ⟨?_, ?_, ?_, ?_, hc, hk.symm, ha⟩
  ·rw [← hu]
   exact (Below.heap_alloc _ _ _ (by simp; omega)).trans ((Below.heap_alloc _ _ _ hrl).trans hr)
  ·rw [← hu]
   exact hs.on Lr (zad (zad Br Lr _) Lr _)
  ·rw [← hu, ← hk]
   exact (Below.heap_alloc _ _ _ (by simp)).trans (heap_alloc_last w _)
  ·rw [← hu, ← hk]
   have hz : (w.alloc (.cells #[.slice none 0 0, .int .i64 0, .slice none 0 0, .int .i64 0, .int .i64 0] 50)).heap.size = w.heap.size + 1 := by simp
   have := heap_alloc_last (w.alloc (.cells #[.slice none 0 0, .int .i64 0, .slice none 0 0, .int .i64 0, .int .i64 0] 50)) (.cells #[.slice none 0 0, .int .i64 0, .slice none 0 0, .int .i64 0, .int .i64 0] 50)
   rw [hz] at this
   exact this
 have N1 := zaa (HC0.out.kind hrl)
 clear hr hs
 go_enter Tryz.func129, Tryz.ntmps129
 go_wp2_with (go_at_call 164; refine N1.out.mono ?_; rintro e w1 ⟨v1, p1, e1, rfl, HS1, HV1, HX1⟩; refine Hid.out ?_)
 apply zaa
 clear N1 HC0 hu
 obtain ⟨a0, a1, a2, a3, a4⟩ := HS1.out.c3.cells
 obtain ⟨f0, f1, f2, f3, f4⟩ := HS1.out.c3.free
 have HT1 := zaa (HS1.out.store hrl 1 (.int .i64 v1) (HS1.out.c3.set (.int .i64 v1)).2.1)
 have T1 := zaa (HT1.out.text hrl)
 go_wp2_with (go_at_call 165; refine T1.out.mono ?_; rintro e w2 ⟨ko, kn, kc, p2, e2, key, rfl, HS2, HK2L, HV2, HX2⟩; refine Hid.out ?_)
 apply zaa
 have HK2 := zaa HK2L.out.1
 have HLOC := zaa HK2L.out.2.1
 have HKN := zaa HK2L.out.2.2
 clear HK2L
 clear a0 a1 a2 a3 a4 f0 f1 f2 f3 f4 T1 HT1 HS1
 obtain ⟨a0, a1, a2, a3, a4⟩ := HS2.out.c3.cells
 obtain ⟨f0, f1, f2, f3, f4⟩ := HS2.out.c3.free
 have HT2 := zaa (HS2.out.store hrl 0 (.slice ko kn kc) (HS2.out.c3.set (.slice ko kn kc)).1)
 have HK2a : Hid (Sl (w2.setCell ⟨k + 1, 0, none⟩ (.slice ko kn kc)) ko kn kc key) := zaa (HK2.out.cf (Cf.set _ _ _ _) (HK2.out.apart5 HS2.out.c3))
 by_cases h1 : v1 = 1
 ·subst h1
  have T2 := zaa (HT2.out.text hrl)
  go_wp2_with (go_at_call 165; refine T2.out.mono ?_; rintro e w3 ⟨vo, vn, vc, p3, e3, val, rfl, HS3, HK3L, HV3, HX3⟩; refine Hid.out ?_)
  apply zaa
  have HK3 := zaa HK3L.out.1
  have HLOCV := zaa HK3L.out.2.1
  clear HK3L
  have HK3a : Hid (Sl w3 ko kn kc key) := zaa (HK2a.out.cf HX3.out (HK2a.out.apartq HT2.out.rd))
  clear a0 a1 a2 a3 a4 f0 f1 f2 f3 f4 T2 HT2 HS2 HK2a
  obtain ⟨a0, a1, a2, a3, a4⟩ := HS3.out.c3.cells
  obtain ⟨f0, f1, f2, f3, f4⟩ := HS3.out.c3.free
  obtain ⟨b0, b1, b2, b3, b4⟩ := HS3.out.c2.cells
  obtain ⟨d0, d1, d2, d3, d4⟩ := HS3.out.c2.free
  have HT3 := zaa (HS3.out.store hrl 2 (.slice vo vn vc) (HS3.out.c3.set (.slice vo vn vc)).2.2.1)
  have HK3b : Hid (Sl (w3.setCell ⟨k + 1, 2, none⟩ (.slice vo vn vc)) ko kn kc key) := zaa (HK3a.out.cf (Cf.set _ _ _ _) (HK3a.out.apart5 HS3.out.c3))
  have HK3c : Hid (Sl (w3.setCell ⟨k + 1, 2, none⟩ (.slice vo vn vc)) vo vn vc val) := zaa (HK3.out.cf (Cf.set _ _ _ _) (HK3.out.apart5 HS3.out.c3))
  have HV := zaa (ucellV HV1.out HV2.out HV3.out)
  clear HS3 HK3 HK3a HV1 HV2 HV3 HX1 HX2 HX3 HK2
  go_wp2
  refine bodyPost_ret (results_cell_row rfl _ _ k 50 #[.slice ko kn kc, .int .i64 1, .slice vo vn vc, .int .i64 0, .int .i64 0] (0, 0) _ (by rfl) (HT3.out.c2.put _ _ _ _ _) Tryz.underlying50 rfl zal) rfl ?_
  exact HT3.out.fin hrl HK3b.out HK3c.out HLOC.out HLOCV.out HKN.out HV.out
 ·have T2 := zaa (HT2.out.unumber hrl)
  go_wp2_with (go_at_call 166; refine T2.out.mono ?_; rintro e w3 ⟨pg, p3, e3, rfl, HS3, HV3, HX3⟩; refine Hid.out ?_)
  apply zaa
  have HK3a : Hid (Sl w3 ko kn kc key) := zaa (HK2a.out.cf HX3.out (HK2a.out.apartq HT2.out.rd))
  clear a0 a1 a2 a3 a4 f0 f1 f2 f3 f4 T2 HT2 HS2 HK2a
  obtain ⟨a0, a1, a2, a3, a4⟩ := HS3.out.c3.cells
  obtain ⟨f0, f1, f2, f3, f4⟩ := HS3.out.c3.free
  have HT3 := zaa (HS3.out.store hrl 3 (.int .i64 (wrap64 pg)) (HS3.out.c3.set (.int .i64 (wrap64 pg))).2.2.2.1)
  have HK3b : Hid (Sl (w3.setCell ⟨k + 1, 3, none⟩ (.int .i64 (wrap64 pg))) ko kn kc key) := zaa (HK3a.out.cf (Cf.set _ _ _ _) (HK3a.out.apart5 HS3.out.c3))
  have T3 := zaa (HT3.out.unumber hrl)
  go_wp2_with (go_at_call 166; refine T3.out.mono ?_; rintro e w4 ⟨ct, p4, e4, rfl, HS4, HV4, HX4⟩; refine Hid.out ?_)
  apply zaa
  have HK4a : Hid (Sl w4 ko kn kc key) := zaa (HK3b.out.cf HX4.out (HK3b.out.apartq HT3.out.rd))
  clear a0 a1 a2 a3 a4 f0 f1 f2 f3 f4 T3 HT3 HS3 HK3a HK3b
  obtain ⟨a0, a1, a2, a3, a4⟩ := HS4.out.c3.cells
  obtain ⟨f0, f1, f2, f3, f4⟩ := HS4.out.c3.free
  obtain ⟨b0, b1, b2, b3, b4⟩ := HS4.out.c2.cells
  obtain ⟨d0, d1, d2, d3, d4⟩ := HS4.out.c2.free
  have HT4 := zaa (HS4.out.store hrl 4 (.int .i64 (wrap64 ct)) (HS4.out.c3.set (.int .i64 (wrap64 ct))).2.2.2.2)
  have HK4b : Hid (Sl (w4.setCell ⟨k + 1, 4, none⟩ (.int .i64 (wrap64 ct))) ko kn kc key) := zaa (HK4a.out.cf (Cf.set _ _ _ _) (HK4a.out.apart5 HS4.out.c3))
  have HV := zaa (ucellN h1 HV1.out HV2.out HV3.out HV4.out)
  clear HS4 HK4a HV1 HV2 HV3 HV4 HX1 HX2 HX3 HX4 HK2
  go_wp2
  refine bodyPost_ret (results_cell_row rfl _ _ k 50 #[.slice ko kn kc, .int .i64 v1, .slice none 0 0, .int .i64 (wrap64 pg), .int .i64 (wrap64 ct)] (0, 0) _ (by rfl) (HT4.out.c2.put _ _ _ _ _) Tryz.underlying50 rfl zal) rfl ?_
  exact HT4.out.fin hrl HK4b.out (Sl.nil_any _ _ _ fun _ => rfl) HLOC.out (fun q hq => by cases hq) HKN.out HV.out
theorem uint_any (n : Int) (w : World) (h0 : 0 ≤ n) (hn : n < 18446744073709551616) :
  Calls Tryz.prog 163 #[.int .u64 n] w fun e w' => ∃ v, e = .returned v ∧ OwnB w' w.heap.size v (uB n) ∧ Below w.heap.size w w' := by
 obtain ⟨i0, hi, hz0, hz1, hz2⟩ := info_parts zbj
 go_enter Tryz.func163, Tryz.ntmps163
 go_wp2_with (at_make; refine wpList_make_own _ rfl _ _ 22 rfl w.heap.size 5 i0 (.int .u8 0) 1 Tryz.underlying22 hi hz0 hz1 .i64 .i64 10 10 rfl rfl rfl (by rw [hz2]; omega) (by decide) Lr ?_)
 intro w1 hown1 hg1
 have hb1 : Below w.heap.size w w1 := Br.grown hg1 Lr (fun k hk => by cases hk)
 go_wp2_with fail
 go_loopw [0, 3] (fun x v wr => ∃ (m : Int) (acc : List Int), 0 ≤ m ∧ m < 18446744073709551616 ∧ x = .int .u64 m ∧ acc ++ uB m = uB n ∧ OwnB wr w.heap.size v acc ∧ Below w.heap.size w wr) (fun x _ _ => (intOf x).toNat)
 case atStart => exact ⟨n, [], h0, hn, rfl, rfl, hown1, hb1⟩
 case round =>
  obtain ⟨m, acc, hm0, hm, rfl, hac, hown, hb⟩ := hrel
  have Hac := hac
  have HA : Hid (acc ++ uB m = uB n) := hac
  clear hac Hac
  have hsz := hb.size
  have hlen : acc.length + 1 ≤ 10 := by
   have h1 := congrArg List.length HA.out
   have h2 := zbe m
   have h3 := zbe n
   simp only [zG] at h1
   omega
  have hor := or128 m
  by_cases hlt : m < 128
  ·go_wp2_with (at_builtin; refine zdu _ rfl _ _ rfl w.heap.size acc _ rfl (hown.alloc _) _ 1 1 [m] rfl rfl (one_cell _ _) (by omega) (by simp; omega) ?_)
   intro v' w2 hown2 hb2
   rw [← uB_small hlt, HA.out] at hown2
   have R : Below w.heap.size w w2 := (hb.alloc hsz _).trans hb2
   clear hb2
   go_wp2
   go_ret
   exact ⟨_, rfl, hown2, R⟩
  ·go_wp2_with (at_builtin; refine zdu _ rfl _ _ rfl w.heap.size acc _ rfl (hown.alloc _) _ 1 1 [m % 128 + 128] rfl rfl (one_cell _ _) (by omega) (by simp; omega) ?_)
   intro v' w2 hown2 hb2
   have R : Below w.heap.size w w2 := (hb.alloc hsz _).trans hb2
   clear hb2
   go_wp2
   go_roundw
   case rel => exact ⟨m / 128, acc ++ [m % 128 + 128], by omega, by omega, rfl, by rw [← HA.out, uB_step (by omega) hm]; simp, hown2, R⟩
   case measure => simp [intOf]; omega
def eV (ho : Option Addr) (hn hc : Nat) (ko : Option Addr) (kn kc : Nat) (kd : Int) (vo : Option Addr) (vn vc : Nat) (pg ct : Int) : Array Value := #[.slice ho hn hc, .slice ko kn kc, .int .i64 kd, .slice vo vn vc, .int .i64 pg, .int .i64 ct]
def E6 (w : World) (g : Nat) (x0 x1 x2 x3 x4 x5 : Value) : Prop := w.heap[g]? = some (.cells #[x0, x1, x2, x3, x4, x5] 123 (0, 0))
theorem E6.cells {w : World} {g : Nat} {x0 x1 x2 x3 x4 x5 : Value} (h : E6 w g x0 x1 x2 x3 x4 x5) :
  w.cell? ⟨g, 0, none⟩ = some x0 ∧ w.cell? ⟨g, 1, none⟩ = some x1 ∧ w.cell? ⟨g, 2, none⟩ = some x2 ∧ w.cell? ⟨g, 3, none⟩ = some x3 ∧ w.cell? ⟨g, 4, none⟩ = some x4 ∧ w.cell? ⟨g, 5, none⟩ = some x5 := by
 unfold E6 at h
 refine ⟨?_, ?_, ?_, ?_, ?_, ?_⟩
 ·rw [cell_of_row _ _ 0 _ _ _ h]; rfl
 ·rw [cell_of_row _ _ 1 _ _ _ h]; rfl
 ·rw [cell_of_row _ _ 2 _ _ _ h]; rfl
 ·rw [cell_of_row _ _ 3 _ _ _ h]; rfl
 ·rw [cell_of_row _ _ 4 _ _ _ h]; rfl
 ·rw [cell_of_row _ _ 5 _ _ _ h]; rfl
theorem E6.box (w : World) (x0 x1 x2 x3 x4 x5 : Value) : E6 (w.alloc (.cells #[x0, x1, x2, x3, x4, x5] 123)) w.heap.size x0 x1 x2 x3 x4 x5 := heap_alloc_last w _
theorem E6.gr {w w' : World} {v v' : Value} {g : Nat} {x0 x1 x2 x3 x4 x5 : Value} (h : E6 w g x0 x1 x2 x3 x4 x5) (hg : Gr w v w' v') (hv : v.ownBlock ≠ some g) : E6 w' g x0 x1 x2 x3 x4 x5 := (hg.grow.block g (zaf h) (fun e => hv e.symm)).trans h
theorem OwnB.apart6 {w : World} {B : Nat} {v : Value} {l : List Int} (h : OwnB w B v l) {g : Nat} {x0 x1 x2 x3 x4 x5 : Value} (hc : E6 w g x0 x1 x2 x3 x4 x5) : v.ownBlock ≠ some g := by
 intro e
 unfold OwnB at h
 rcases h.2 with ⟨rfl, _⟩ | ⟨q, cap, cur, rfl, _, hh, _⟩
 ·cases e
 ·simp only [Value.ownBlock, Option.some.injEq] at e
  subst e
  unfold E6 at hc
  rw [hc] at hh
  simp at hh
theorem add_block (a : Addr) (n : Nat) : (a.add n).block = a.block := by simp only [Addr.add]; split <;> rfl
theorem sl_from {w : World} {ao : Option Addr} {n cap : Nat} {l : List Int} (h : Sl w ao n cap l) (k : Nat) (hk : k ≤ n) : (ao = none ∧ n = 0 ∧ cap = 0) ∨ ∃ a, ao = some a ∧ ((cap = k ∧ Sl w (some a) (n - k) (cap - k) (l.drop k)) ∨ (cap ≠ k ∧ Sl w (some (a.add k)) (n - k) (cap - k) (l.drop k))) := by
 have hc := h.hcap
 cases ao with
 | none =>
  have := h.hnil rfl
  exact .inl ⟨rfl, by omega, this⟩
 | some a =>
  refine .inr ⟨a, rfl, ?_⟩
  by_cases e : cap = k
  ·refine .inl ⟨e, ?_⟩
   have hn : n - k = 0 := by omega
   have hd : l.drop k = [] := List.drop_eq_nil_of_le (by have := h.hlen; omega)
   rw [hn, hd]
   exact Sl.nil_any _ _ _ (by intro h; cases h)
  ·refine .inr ⟨e, ?_⟩
   by_cases hz : n = k
   ·subst hz
    rw [Nat.sub_self, List.drop_eq_nil_of_le (by have := h.hlen; omega)]
    exact Sl.nil_any _ _ _ (by intro h; cases h)
   ·rcases h.hat with h0 | ⟨b, off, e2, hlt, hcl⟩
    ·omega
    ·injection e2 with e2
     subst e2
     have := h.piece k (n - k) (cap - k) (by omega) (by omega)
     rw [List.take_of_length_le (by rw [zK]; have := h.hlen; omega)] at this
     simpa [Addr.add_lit] using this
def RestTo (ho ko : Option Addr) (hn kn : Nat) (l : List Int) (w : World) (e : Ending) (w' : World) : Prop :=
 ∃ (a1 : Option Addr) (n1 c1 : Nat) (a2 : Option Addr) (n2 c2 : Nat) (l1 l2 : List Int), e = .returned (.tuple #[.slice a1 n1 c1, .slice a2 n2 c2]) ∧ Hid (Below w.heap.size w w') ∧ Hid (Sl w' a1 n1 c1 l1 ∧ Sl w' a2 n2 c2 l2 ∧ l1 ++ l2 = l ∧ (∀ q, a1 = some q → ∃ o, ho = some o ∧ q.block = o.block) ∧ (∀ q, a2 = some q → ∃ o, ko = some o ∧ q.block = o.block) ∧ n1 ≤ hn ∧ n2 ≤ kn)
theorem erest_any (ho : Option Addr) (hn hc : Nat) (ko : Option Addr) (kn kc : Nat) (kd : Int) (vo : Option Addr) (vn vc : Nat) (pg ct : Int) (h key : List Int) (n : Nat) (w : World) (hh : Sl w ho hn hc h) (hk : Sl w ko kn kc key) (hl : n ≤ hn + kn) :
  Calls Tryz.prog 162 #[.agg (eV ho hn hc ko kn kc kd vo vn vc pg ct), .int .i64 (n : Int)] w fun e w' => RestTo ho ko hn kn ((h ++ key).drop n) w e w' := by
 unfold eV
 have hhr := hh.hroom
 have hkr := hk.hroom
 have hhl := hh.hlen
 have hkl := hk.hlen
 have hhc := hh.hcap
 have hkc := hk.hcap
 obtain ⟨x, hx⟩ : ∃ x, w.alloc (.cells #[.slice ho hn hc, .slice ko kn kc, .int .i64 kd, .slice vo vn vc, .int .i64 pg, .int .i64 ct] 123) = x := ⟨_, rfl⟩
 have hbx : Below w.heap.size w x := by rw [← hx]; exact zad Br Lr _
 have hb6 : E6 x w.heap.size (.slice ho hn hc) (.slice ko kn kc) (.int .i64 kd) (.slice vo vn vc) (.int .i64 pg) (.int .i64 ct) := by rw [← hx]; exact E6.box w _ _ _ _ _ _
 obtain ⟨b0, b1, b2, b3, b4, b5⟩ := hb6.cells
 have HBX := zaa hbx
 have HK := zaa (hk.on Lr hbx)
 have HH := zaa (hh.on Lr hbx)
 have i1 : (n : Int) ≤ 281474976710656 := by omega
 have i2 : (hn : Int) ≤ 140737488355328 := by omega
 have i3 : (kn : Int) ≤ 140737488355328 := by omega
 by_cases hle : n ≤ hn
 ·have hleI : (n : Int) ≤ (hn : Int) := by omega
  have hlc : n ≤ hc := by omega
  have hlcI : (n : Int) ≤ (hc : Int) := by omega
  have HD : Hid (h.drop n ++ key = (h ++ key).drop n) := zaa (by rw [List.drop_append_of_le_length (by omega)])
  rcases sl_from HH.out n hle with ⟨rfl, rfl, rfl⟩ | ⟨a, rfl, ⟨hcn, hs⟩ | ⟨hcn, hs⟩⟩
  ·obtain rfl : n = 0 := by omega
   clear hh hk hbx hb6
   go_enter Tryz.func162, Tryz.ntmps162
   go_wp2_with fail
   go_quiet (fail)
   go_wp2
   go_ret2
   have : h = [] := List.eq_nil_of_length_eq_zero hhl
   subst this
   exact ⟨none, 0, 0, ko, kn, kc, [], key, rfl, zaa (zab HBX.out _), zaa ⟨Sl.nil_any _ _ _ (fun _ => rfl), HK.out.drewN _, by simp, (by intro q hq; cases hq), (fun q hq => ⟨q, hq, rfl⟩), by simp, by simp⟩⟩
  ·have HS := zaa hs
   clear hh hk hbx hb6 hs
   subst hcn
   obtain rfl : hn = hc := by omega
   go_enter Tryz.func162, Tryz.ntmps162
   go_wp2_with fail
   go_quiet (fail)
   go_wp2
   go_ret2
   exact ⟨some a, _, _, ko, kn, kc, h.drop hn, key, rfl, zaa (zab HBX.out _), zaa ⟨by simpa using HS.out.drewN _, HK.out.drewN _, HD.out, (fun q hq => ⟨a, rfl, by injection hq with hq; rw [hq]⟩), (fun q hq => ⟨q, hq, rfl⟩), by simp, by simp⟩⟩
  ·have HS := zaa hs
   have hcn2 : hc - n ≠ 0 := by omega
   have hcn3 : n < hc := by omega
   have hcn4 : (n : Int) < (hc : Int) := by omega
   clear hh hk hbx hb6 hs
   go_enter Tryz.func162, Tryz.ntmps162
   go_wp2_with fail
   go_quiet (fail)
   go_wp2
   go_ret2
   exact ⟨some (a.add n), _, _, ko, kn, kc, h.drop n, key, rfl, zaa (zab HBX.out _), zaa ⟨by simpa using HS.out.drewN _, HK.out.drewN _, HD.out, (fun q hq => ⟨a, rfl, by injection hq with hq; rw [← hq, add_block]⟩), (fun q hq => ⟨q, hq, rfl⟩), by simp, by simp⟩⟩
 ·have hleI : ¬ (n : Int) ≤ (hn : Int) := by omega
  obtain ⟨m, hm⟩ : ∃ m, n = hn + m := ⟨n - hn, by omega⟩
  subst hm
  have hmk : m ≤ kn := by omega
  have hmkI : (m : Int) ≤ (kn : Int) := by omega
  have hmc : m ≤ kc := by omega
  have hmcI : (m : Int) ≤ (kc : Int) := by omega
  have HD : Hid ([] ++ key.drop m = (h ++ key).drop (hn + m)) := zaa (by rw [← hhl, List.drop_append]; simp)
  have hw : IntKind.i64.wrap (((hn + m : Nat) : Int) - (hn : Int)) = (m : Int) := by rw [IntKind.wrap_i64]; omega
  have hw2 : ((hn : Int) + (m : Int)) - (hn : Int) = (m : Int) := by omega
  rcases sl_from HK.out m hmk with ⟨rfl, rfl, rfl⟩ | ⟨a, rfl, ⟨hcn, hs⟩ | ⟨hcn, hs⟩⟩
  ·omega
  ·have HS := zaa hs
   clear hh hk hbx hb6 hs
   subst hcn
   obtain rfl : kn = kc := by omega
   go_enter Tryz.func162, Tryz.ntmps162
   go_wp2_with fail
   go_quiet (fail)
   go_wp2
   go_ret2
   exact ⟨none, 0, 0, some a, _, _, [], key.drop kn, rfl, zaa (zab HBX.out _), zaa ⟨Sl.nil_any _ _ _ (fun _ => rfl), by simpa using HS.out.drewN _, HD.out, (by intro q hq; cases hq), (fun q hq => ⟨a, rfl, by injection hq with hq; rw [hq]⟩), by simp, by simp⟩⟩
  ·have HS := zaa hs
   have hcn2 : kc - m ≠ 0 := by omega
   have hcn3 : m < kc := by omega
   have hcn4 : (m : Int) < (kc : Int) := by omega
   clear hh hk hbx hb6 hs
   go_enter Tryz.func162, Tryz.ntmps162
   go_wp2_with fail
   go_quiet (fail)
   go_wp2
   go_ret2
   exact ⟨none, 0, 0, some (a.add m), _, _, [], key.drop m, rfl, zaa (zab HBX.out _), zaa ⟨Sl.nil_any _ _ _ (fun _ => rfl), by simpa using HS.out.drewN _, HD.out, (by intro q hq; cases hq), (fun q hq => ⟨a, rfl, by injection hq with hq; rw [← hq, add_block]⟩), by simp, by simp⟩⟩
theorem run_app_sl (w : World) (ty : TypeId) (B : Nat) (l news : List Int) (v : Value) (ao : Option Addr) (n c : Nat) (hown : OwnB w B v l) (hsl : Sl w ao n c news) (hb : l.length + n ≤ 140737488355328) (hbase : B ≤ w.heap.size) :
  ∃ v' w', (Builtin.append_ #[22, 22] ty #[v, .slice ao n c]).run Tryz.prog w = .ok v' w' ∧ OwnB w' B v' (l ++ news) ∧ Gr w v w' v' := by
 obtain ⟨i0, hi, hz0, hz1, hz2⟩ := info_parts zbj
 have hlen := hsl.hlen
 cases ao with
 | none =>
  have : n = 0 := by have := hsl.hnil rfl; have := hsl.hcap; omega
  subst this
  have hc0 := hsl.hnil rfl
  subst hc0
  obtain rfl : news = [] := List.eq_nil_of_length_eq_zero hlen
  exact ⟨v, w, run_append_owned_none (P := Tryz.prog) (w := w) B 22 ty 5 i0 1 Tryz.underlying22 hi v l.length (By l) hown, by simpa using hown, Gr.refl _ _⟩
 | some ad =>
  obtain ⟨v', w', hr, h1, h2, _, h4⟩ := run_append_own_at (P := Tryz.prog) w B 22 ty 5 i0 (.int .u8 0) 1 1 Tryz.underlying22 hi hz0 hz1 hz2 rfl (by decide) v l.length (By l) hown ad n c (By news) (by simp [By, hlen])
   (fun j u hu => by
    obtain ⟨h1, h2⟩ := getElem?_By news j u hu
    rw [h2]
    rcases hsl.hat with h0 | ⟨b, off, e, _, hc⟩
    ·omega
    ·injection e with e
     subst e
     rw [Addr.add_lit]
     exact hc j (by omega)) (zby news) (by unfold maxLen; omega) (by omega) hbase
  refine ⟨v', w', hr, ?_, ⟨h2, h4.imp id fun e => ⟨_, e, Lr⟩⟩⟩
  unfold OwnB
  rw [zdn, zG, hlen]
  exact h1
theorem step_sl {ops : Array Oper} {o : Oper} {a : Act} {w : World} {K : Act → World → Prop} {Q : Exit → Act → World → Prop} {E : Prop} (hgd : o.guard = none) (s x : Operand)
  (ho : o.op = .call { callee := .builtin .append, args := #[s, x], argTypes := #[22, 22] }) (B : Nat) (l news : List Int) (v : Value) (ao : Option Addr) (n c : Nat) (hs : a.eval s = v) (hx : a.eval x = .slice ao n c)
  (hown : OwnB w B v l) (hsl : Sl w ao n c news) (hb : l.length + n ≤ 140737488355328) (hbase : B ≤ w.heap.size)
  (h : ∀ v' w', OwnB w' B v' (l ++ news) → Gr w v w' v' → K (a.put o.dst v') w') :
  if Region.wanted o (yielded ops a.tmps) = true then Oper.wp Tryz.prog o a w K Q else E := by
 have hw : Region.wanted o (yielded ops a.tmps) = true := by simp [Region.wanted, hgd]
 rw [if_pos hw]
 obtain ⟨v', w', hr, h1, h2⟩ := run_app_sl w o.type B l news v ao n c hown hsl hb hbase
 have hfin := h v' w' h1 h2
 unfold Oper.wp
 simp [execOp, ho, resolve, invoke, builtin, hs, hx, hr, Result.andThen]
 exact hfin
theorem withKey_any (v : Value) (B : Nat) (l : List Int) (ho : Option Addr) (hn hc : Nat) (ko : Option Addr) (kn kc : Nat) (kd : Int) (vo : Option Addr) (vn vc : Nat) (pg ct : Int) (h key : List Int) (w : World) (hown : OwnB w B v l) (hB : B ≤ w.heap.size)
  (hh : Sl w ho hn hc h) (hk : Sl w ko kn kc key) (fh : Far ho hn v) (fk : Far ko kn v) (hl : l.length + hn + kn ≤ 140737488355328) :
  Calls Tryz.prog 167 #[.agg (eV ho hn hc ko kn kc kd vo vn vc pg ct), v] w fun e w' => ∃ v', e = .returned v' ∧ Hid (OwnB w' B v' (l ++ h ++ key)) ∧ Hid (Gr w v w' v') := by
 unfold eV
 obtain ⟨x, hx⟩ : ∃ x, w.alloc (.cells #[.slice ho hn hc, .slice ko kn kc, .int .i64 kd, .slice vo vn vc, .int .i64 pg, .int .i64 ct] 123) = x := ⟨_, rfl⟩
 have hbx : Below w.heap.size w x := by rw [← hx]; exact zad Br Lr _
 have hb6 : E6 x w.heap.size (.slice ho hn hc) (.slice ko kn kc) (.int .i64 kd) (.slice vo vn vc) (.int .i64 pg) (.int .i64 ct) := by rw [← hx]; exact E6.box w _ _ _ _ _ _
 obtain ⟨s, hs⟩ : ∃ s, w.heap.size = s := ⟨_, rfl⟩
 rw [hs] at hb6
 have HB6 := zaa hb6
 obtain ⟨b0, b1, b2, b3, b4, b5⟩ := hb6.cells
 have HO : Hid (OwnB x B v l) := zaa (hown.on Lr hbx)
 have HK : Hid (Sl x ko kn kc key) := zaa (hk.on Lr hbx)
 have HH : Hid (Sl x ho hn hc h) := zaa (hh.on Lr hbx)
 have HG : Hid (Gr w v x v) := zaa (Gr.ofBelow v hbx)
 have hBx : B ≤ x.heap.size := zN hB hbx.size
 have HFH := zaa fh
 have HFK := zaa fk
 have HAP := zaa (HO.out.apart6 hb6)
 have hlh : h.length = hn := hh.hlen
 clear hown hh hk fh fk hbx hb6
 go_enter Tryz.func167, Tryz.ntmps167
 go_wp2_with fail
 go_region_law (first
  | (refine step_sl rfl (.tmp 5) (.tmp 7) rfl B l h v ho hn hc rfl rfl (by first | exact HO.out | exact HO.out.on Lr Br.drew | exact HO.out.on Lr (zab Br _)) (by first | exact HH.out | exact HH.out.on Lr Br.drew | exact HH.out.drewN _) (by omega) (by first | exact hBx | simpa using hBx) ?_; intro v1 w1 ho1 g1; have hg1 : Gr x v w1 v1 := (Gr.ofBelow v (by first | exact Br | exact Br.drew | exact zab Br _)).trans g1; have HO1 := zaa ho1; have HK1 := zaa (HK.out.gr hg1 HFK.out); have HG1 := zaa (HG.out.trans hg1); have hB1 : B ≤ w1.heap.size := zN hBx hg1.grow.size; obtain ⟨y0, y1, y2, y3, y4, y5⟩ := (HB6.out.gr hg1 HAP.out).cells; clear ho1 g1 hg1)
  | (refine step_sl rfl (.tmp 8) (.tmp 11) rfl B (l ++ h) key v1 ko kn kc rfl rfl (by first | exact HO1.out | exact HO1.out.on Lr Br.drew | exact HO1.out.on Lr (zab Br _)) (by first | exact HK1.out | exact HK1.out.on Lr Br.drew | exact HK1.out.drewN _) (by rw [zG]; omega) (by first | exact hB1 | simpa using hB1) ?_; intro v2 w2 ho2 g2; have HO2 := zaa ho2; have HG2 := zaa (HG1.out.trans ((Gr.ofBelow v1 (by first | exact Br | exact Br.drew | exact zab Br _)).trans g2)); clear ho2 g2))
 all_goals
  go_wp2
  go_ret
  exact ⟨v2, rfl, HO2, HG2⟩
end Go.Proofs.YtbkhjeacmmbabaaGreatDoor
