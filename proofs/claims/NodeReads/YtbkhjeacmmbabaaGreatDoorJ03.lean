import Derived.Test.YtbkhjeacmmbabaaGreatDoorJ02
namespace Go.Proofs.YtbkhjeacmmbabaaGreatDoor
set_option maxRecDepth 100000
set_option maxHeartbeats 1000000
open Go.RowKit
structure Cf (F : Nat → Prop) (w w' : World) : Prop where
 os : w'.os = w.os
 tape : w'.tape = w.tape
 output : w'.output = w.output
 size : w.heap.size ≤ w'.heap.size
 block : ∀ k, k < w.heap.size → ¬ F k → w'.heap[k]? = w.heap[k]?
theorem Cf.refl (F : Nat → Prop) (w : World) : Cf F w w := ⟨rfl, rfl, rfl, Lr, fun _ _ _ => rfl⟩
theorem Cf.trans {F G : Nat → Prop} {a b c : World} (h : Cf F a b) (k : Cf G b c) (hG : ∀ i, i < a.heap.size → G i → F i) : Cf F a c :=
 ⟨k.os.trans h.os, k.tape.trans h.tape, k.output.trans h.output, zN h.size k.size, fun i hi hf => (k.block i (zO hi h.size) fun g => hf (hG i hi g)).trans (h.block i hi hf)⟩
theorem Cf.go {F : Nat → Prop} {a b c : World} (h : Cf F a b) (k : Cf F b c) : Cf F a c := h.trans k fun _ _ g => g
theorem Cf.of_below {F : Nat → Prop} {a b : World} (h : Below a.heap.size a b) : Cf F a b := ⟨h.os, h.tape, h.output, h.size, fun k hk _ => h.block k hk⟩
theorem Cf.below {F : Nat → Prop} {a b : World} {B : Nat} (h : Cf F a b) (hB : B ≤ a.heap.size) (hF : ∀ k, k < B → ¬ F k) : Below B a b := ⟨h.os, h.tape, h.output, h.size, fun k hk => h.block k (by omega) (hF k hk)⟩
theorem Cf.alloc (F : Nat → Prop) (w : World) (o : Obj) : Cf F w (w.alloc o) := ⟨rfl, rfl, rfl, by simp, fun k hk _ => Below.heap_alloc _ _ _ hk⟩
theorem Cf.setCell {F : Nat → Prop} (w : World) {p : Addr} (hp : F p.block) (u : Value) : Cf F w (w.setCell p u) :=
 ⟨rfl, rfl, rfl, by simp [World.setCell], fun k _ hk => Below.heap_setCell _ _ _ _ fun e => hk (e ▸ hp)⟩
theorem Cf.set (w : World) (r k : Nat) (u : Value) : Cf (· = r) w (w.setCell ⟨r, k, none⟩ u) := Cf.setCell (F := (· = r)) w (p := ⟨r, k, none⟩) rfl u
theorem Cf.drew (F : Nat → Prop) (w : World) (n : Nat) : Cf F w (w.drewN n) := ⟨rfl, rfl, rfl, Lr, fun _ _ _ => rfl⟩
def Rd (w : World) (r : Nat) (ao : Option Addr) (n cap at_ : Nat) (en : Bool) : Prop := w.heap[r]? = some (.cells #[.slice ao n cap, .int .i64 (at_ : Int), .bool en] 151 (0, 0))
theorem Rd.c0 {w : World} {r : Nat} {ao : Option Addr} {n cap at_ : Nat} {en : Bool} (h : Rd w r ao n cap at_ en) : w.cell? ⟨r, 0, none⟩ = some (.slice ao n cap) := by rw [cell_of_row _ _ 0 _ _ _ h]; rfl
theorem Rd.c1 {w : World} {r : Nat} {ao : Option Addr} {n cap at_ : Nat} {en : Bool} (h : Rd w r ao n cap at_ en) : w.cell? ⟨r, 1, none⟩ = some (.int .i64 (at_ : Int)) := by rw [cell_of_row _ _ 1 _ _ _ h]; rfl
theorem Rd.c2 {w : World} {r : Nat} {ao : Option Addr} {n cap at_ : Nat} {en : Bool} (h : Rd w r ao n cap at_ en) : w.cell? ⟨r, 2, none⟩ = some (.bool en) := by rw [cell_of_row _ _ 2 _ _ _ h]; rfl
theorem Rd.free {w : World} {r : Nat} {ao : Option Addr} {n cap at_ : Nat} {en : Bool} (h : Rd w r ao n cap at_ en) (k : Nat) : w.frozen? ⟨r, k, none⟩ = false := by
 unfold Rd at h
 simp [World.frozen?, h]
theorem Rd.drewN {w : World} {r : Nat} {ao : Option Addr} {n cap at_ : Nat} {en : Bool} (h : Rd w r ao n cap at_ en) (q : Nat) : Rd (w.drewN q) r ao n cap at_ en := h
theorem Rd.lt {w : World} {r : Nat} {ao : Option Addr} {n cap at_ : Nat} {en : Bool} (h : Rd w r ao n cap at_ en) : r < w.heap.size := zaf h
theorem Rd.set1 {w : World} {r : Nat} {ao : Option Addr} {n cap at_ : Nat} {en : Bool} (h : Rd w r ao n cap at_ en) (x : Nat) : Rd (w.setCell ⟨r, 1, none⟩ (.int .i64 (x : Int))) r ao n cap x en := by
 unfold Rd at *
 have := zaw (w := w) (a := r) (cs := [.slice ao n cap, .int .i64 (at_ : Int), .bool en]) (i := 1) (u := .int .i64 (x : Int)) h
 simpa using this
theorem Rd.set2 {w : World} {r : Nat} {ao : Option Addr} {n cap at_ : Nat} {en : Bool} (h : Rd w r ao n cap at_ en) (x : Bool) : Rd (w.setCell ⟨r, 2, none⟩ (.bool x)) r ao n cap at_ x := by
 unfold Rd at *
 have := zaw (w := w) (a := r) (cs := [.slice ao n cap, .int .i64 (at_ : Int), .bool en]) (i := 2) (u := .bool x) h
 simpa using this
theorem Sl.apart {w : World} {ao : Option Addr} {n cap : Nat} {l : List Int} (h : Sl w ao n cap l) {r : Nat} {a : Option Addr} {b c d : Nat} {en : Bool} (hr : Rd w r a b c d en) : n = 0 ∨ ∀ p, ao = some p → p.block ≠ r := by
 rcases h.hat with h0 | ⟨g, off, rfl, hg, hc⟩
 ·exact .inl h0
 ·rcases Nat.eq_zero_or_pos n with h0 | h0
  ·exact .inl h0
  ·right
   rintro p hp rfl
   injection hp with hp
   subst hp
   have h1 := hc 0 h0
   rw [cell_of_row _ _ _ _ _ _ hr] at h1
   rcases Nat.lt_or_ge (off + 0) 3 with h3 | h3
   ·have h4 : off + 0 = 0 ∨ off + 0 = 1 ∨ off + 0 = 2 := by omega
    rcases h4 with h4 | h4 | h4 <;> (rw [h4] at h1; simp at h1)
   ·rw [Array.getElem?_eq_none (by simpa using h3)] at h1
    cases h1
theorem Sl.cf {w w' : World} {ao : Option Addr} {n cap : Nat} {l : List Int} {F : Nat → Prop} (h : Sl w ao n cap l) (hc : Cf F w w') (hf : n = 0 ∨ ∀ p, ao = some p → ¬ F p.block) : Sl w' ao n cap l := by
 refine ⟨h.hlen, h.hcap, h.hroom, h.wf, h.hnil, ?_⟩
 rcases h.hat with h0 | ⟨b, off, e, hlt, hcl⟩
 ·exact .inl h0
 ·rcases hf with h0 | hf
  ·exact .inl h0
  ·refine .inr ⟨b, off, e, zO hlt hc.size, fun i hi => ?_⟩
   have := hc.block b hlt (hf _ e)
   rw [← hcl i hi]
   simp only [World.cell?, this]
def NumTo (x : Nat) (l : List Int) (w : World) (r : Nat) (ao : Option Addr) (n cap at_ : Nat) (en : Bool) (e : Ending) (w' : World) : Prop :=
 ∃ (v : Int) (p : Nat) (en' : Bool), e = .returned (.int .i64 v) ∧ Hid (Rd w' r ao n cap p en') ∧ Hid (Cf (· = r) w w') ∧ Hid ((0 ≤ v ∧ v < 256 ^ x) ∧ p ≤ n ∧ ((pNum x (l.drop at_) = some (v, l.drop p) ∧ en' = en) ∨ (pNum x (l.drop at_) = none ∧ en' = true ∧ v = 0 ∧ p = at_)))
theorem number_any (x : Nat) (l : List Int) (w : World) (r : Nat) (ao : Option Addr) (n cap at_ : Nat) (en : Bool) (hx : x = 1 ∨ x = 2 ∨ x = 4) (hr : Rd w r ao n cap at_ en) (hs : Sl w ao n cap l) (ha : at_ ≤ n) :
  Calls Tryz.prog 158 #[.pointer (some ⟨r, 0, none⟩), .int .i64 (x : Int)] w fun e w' => NumTo x l w r ao n cap at_ en e w' := by
 have c0 := hr.c0
 have c1 := hr.c1
 have c2 := hr.c2
 have f1 := hr.free 1
 have f2 := hr.free 2
 have hn := hs.hroom
 have HR := zaa hr
 have hlen := hs.hlen
 have hx0 : 1 ≤ (x : Int) ∧ (x : Int) ≤ 8 := by omega
 by_cases h : x ≤ n - at_
 ·have HF : Hid (∀ q, Calls Tryz.prog 172 #[.slice ao n cap, .int .i64 (at_ : Int), .int .i64 (x : Int)] (w.drewN q) fun e w' => e = .returned (.tuple #[.int .u64 (rdB ((l.drop at_).take x)), .int .i64 0]) ∧ w' = w.drewN q) :=
   zaa fun q => by simpa using readFixed_ok ao n cap l (at_ : Int) (x : Int) (w.drewN q) (hs.drewN q) hx0.1 hx0.2 (by omega) (by omega)
  have hp : pNum x (l.drop at_) = some (rdB ((l.drop at_).take x), l.drop (at_ + x)) := by
   unfold pNum
   rw [if_neg (by rw [zK]; omega), List.drop_drop]
  have hb := zdo ((l.drop at_).take x) ((hs.wf.drop at_).take x)
  rw [show ((l.drop at_).take x).length = x from by rw [zJ, zK]; omega] at hb
  have HB := zaa hb
  have hb8 : rdB ((l.drop at_).take x) < 4294967296 := by rcases hx with rfl | rfl | rfl <;> omega
  generalize rdB ((l.drop at_).take x) = v at *
  have hv0 := hb.1
  have HP := zaa hp
  clear hp hb hs
  have hw : wrap64 v = v := by simp [wrap64]; omega
  have HS : ∀ q, Hid (Rd ((w.drewN q).setCell ⟨r, 1, none⟩ (.int .i64 ((at_ + x : Nat) : Int))) r ao n cap (at_ + x) en) := fun q => zaa (Rd.set1 (HR.out.drewN q) (at_ + x))
  go_enter Tryz.func158, Tryz.ntmps158
  go_wp2_with fail
  go_quiet (first | (go_at_call 172; exact Calls.quiet_of_same (HF.out _)))
  go_wp2
  go_ret
  exact ⟨v, at_ + x, en, rfl, by simpa using HS _, zaa ((Cf.drew _ _ _).go (Cf.set _ _ _ _)), zaa ⟨HB.out, by omega, .inl ⟨HP.out, rfl⟩⟩⟩
 ·have HF : Hid (∀ q, Calls Tryz.prog 172 #[.slice ao n cap, .int .i64 (at_ : Int), .int .i64 (x : Int)] (w.drewN q) fun e w' => e = .returned (.tuple #[.int .u64 0, .int .i64 10]) ∧ w' = w.drewN q) :=
   zaa fun q => by simpa using zej ao n cap (at_ : Int) (x : Int) (w.drewN q) hx0.1 hx0.2 (by omega) (by omega) (by omega)
  have hp : pNum x (l.drop at_) = none := by
   unfold pNum
   rw [if_pos (by rw [zK]; omega)]
  have HP := zaa hp
  clear hp hs
  go_enter Tryz.func158, Tryz.ntmps158
  go_wp2_with fail
  go_quiet (first | (go_at_call 172; exact Calls.quiet_of_same (HF.out _)))
  go_wp2
  go_ret
  exact ⟨0, at_, true, rfl, zaa (Rd.set2 (HR.out.drewN _) true), zaa ((Cf.drew _ _ _).go (Cf.set _ _ _ _)), zaa ⟨⟨by omega, Int.pow_pos (by omega)⟩, ha, .inr ⟨HP.out, rfl, rfl, rfl⟩⟩⟩
theorem Sl.piece {w : World} {g off n cap : Nat} {l : List Int} (h : Sl w (some ⟨g, off, none⟩) n cap l) (a k c : Nat) (hk : a + k ≤ n) (hc : k ≤ c) : Sl w (some ⟨g, off + a, none⟩) k c ((l.drop a).take k) := by
 have hl := h.hlen
 refine ⟨by rw [zJ, zK]; omega, hc, zN (by omega) h.hroom, (h.wf.drop a).take k, (by intro e; cases e), ?_⟩
 rcases h.hat with h0 | ⟨b, o, e, hlt, hcl⟩
 ·exact .inl (by omega)
 ·injection e with e
  injection e with e1 e2
  subst e1 e2
  refine .inr ⟨g, off + a, rfl, hlt, fun i hi => ?_⟩
  rw [Nat.add_assoc, hcl (a + i) (by omega)]
  simp [List.getD, hi]
theorem Sl.nil_any (w : World) (ao : Option Addr) (c : Nat) (h : ao = none → c = 0) : Sl w ao 0 c [] := ⟨rfl, Nat.zero_le _, by omega, Wf.nil, h, .inl rfl⟩
def TextTo (l : List Int) (w : World) (r : Nat) (ao : Option Addr) (n cap at_ : Nat) (en : Bool) (e : Ending) (w' : World) : Prop :=
 ∃ (ko : Option Addr) (kn kc p : Nat) (en' : Bool) (t : List Int), e = .returned (.slice ko kn kc) ∧ Hid (Rd w' r ao n cap p en') ∧ Hid (Cf (· = r) w w') ∧ Hid (Sl w' ko kn kc t ∧ (∀ q, ko = some q → ∀ o, ao = some o → q.block = o.block) ∧ p ≤ n ∧ ((zap (l.drop at_) = some (t, l.drop p) ∧ en' = en) ∨ (zap (l.drop at_) = none ∧ en' = true)))
theorem text_any (l : List Int) (w : World) (r g off n cap at_ : Nat) (en : Bool) (hr : Rd w r (some ⟨g, off, none⟩) n cap at_ en) (hs : Sl w (some ⟨g, off, none⟩) n cap l) (ha : at_ ≤ n) :
  Calls Tryz.prog 159 #[.pointer (some ⟨r, 0, none⟩)] w fun e w' => TextTo l w r (some ⟨g, off, none⟩) n cap at_ en e w' := by
 have HN := zaa (number_any 2 l w r (some ⟨g, off, none⟩) n cap at_ en (.inr (.inl rfl)) hr hs ha)
 have HS := zaa hs
 have HAP := zaa (hs.apart hr)
 have hn := hs.hroom
 have hcap := hs.hcap
 clear hr hs
 go_enter Tryz.func159, Tryz.ntmps159
 go_wp2_with (go_at_call 158; refine HN.out.mono ?_; rintro e w1 ⟨v, p, en', rfl, HR, HC, HV⟩; refine Hid.out ?_)
 apply zaa
 clear HN
 obtain ⟨⟨hv0, hv1⟩, hp, hcase⟩ := HV.out
 clear HV
 have HCASE := zaa hcase
 clear hcase
 obtain ⟨m, rfl⟩ := Int.eq_ofNat_of_zero_le hv0
 have hm : m < 65536 := by omega
 clear hv0 hv1
 have HS1 : Hid (Sl w1 (some ⟨g, off, none⟩) n cap l) := zaa (HS.out.cf HC.out HAP.out)
 have c0 := HR.out.c0
 have c1 := HR.out.c1
 have c2 := HR.out.c2
 have f1 := HR.out.free 1
 have f2 := HR.out.free 2
 have HLEN := zaa HS.out.hlen
 by_cases h : (n : Int) - (p : Int) < (m : Int)
 ·have d1 : decide ((n : Int) - (p : Int) < (m : Int)) = true := decide_eq_true h
  have HQ : Hid (zap (l.drop at_) = none) := by
   rcases HCASE.out with ⟨h1, h2⟩ | ⟨h1, h2, h3, h4⟩
   ·refine zaa ?_
    unfold zap
    rw [h1]
    simp only
    rw [if_pos (by rw [zK, HLEN.out]; omega)]
   ·omega
  go_wp2_with fail
  go_quiet (fail)
  go_wp2
  go_ret
  exact ⟨none, 0, 0, p, true, [], rfl, zaa (Rd.set2 (HR.out.drewN _) true), zaa ((HC.out.go (Cf.drew _ _ _)).go (Cf.set _ _ _ _)), zaa ⟨Sl.nil_any _ _ _ (fun _ => rfl), (by intro q hq; cases hq), hp, .inr ⟨HQ.out, rfl⟩⟩⟩
 ·have d1 : decide ((n : Int) - (p : Int) < (m : Int)) = false := decide_eq_false h
  have HCASE2 : Hid (∃ tx, tx = (l.drop p).take m ∧ ((zap (l.drop at_) = some (tx, l.drop (p + m)) ∧ en' = en) ∨ (zap (l.drop at_) = none ∧ en' = true))) := by
   refine zaa ⟨(l.drop p).take m, rfl, ?_⟩
   rcases HCASE.out with ⟨h1, h2⟩ | ⟨h1, h2, h3, h4⟩
   ·left
    refine ⟨?_, h2⟩
    unfold zap
    rw [h1]
    simp only
    rw [if_neg (by rw [zK, HLEN.out]; omega), Int.toNat_natCast, List.drop_drop]
   ·right
    refine ⟨?_, h2⟩
    unfold zap
    rw [h1]
  have HAP2 : Hid (m = 0 ∨ ∀ q : Addr, some (⟨g, off + p, none⟩ : Addr) = some q → ¬ q.block = r) := by
   refine zaa ?_
   rcases HAP.out with h0 | h0
   ·exact .inl (by omega)
   ·exact .inr fun q hq => by injection hq with hq; subst hq; exact h0 ⟨g, off, none⟩ rfl
  by_cases hm0 : m = 0
  ·subst hm0
   have p2 : p ≤ cap := by omega
   have p3 : (p : Int) ≤ (cap : Int) := by omega
   have HS2 : ∀ q, Hid (Rd ((w1.drewN q).setCell ⟨r, 1, none⟩ (.int .i64 (p : Int))) r (some ⟨g, off, none⟩) n cap p en') := fun q => zaa (Rd.set1 (HR.out.drewN q) p)
   have x0 := fun q => (HS2 q).out.c0
   have x1 := fun q => (HS2 q).out.c1
   have HCF : Hid (∀ q q' : Nat, Cf (· = r) w (((w1.drewN q).setCell ⟨r, 1, none⟩ (.int .i64 (p : Int))).drewN q')) := zaa fun q q' => ((HC.out.go (Cf.drew _ _ _)).go (Cf.set _ _ _ _)).go (Cf.drew _ _ _)
   clear h HAP2 HCASE
   go_wp2_with fail
   go_quiet (fail)
   go_wp2_with fail
   go_quiet (fail)
   go_wp2
   go_ret
   obtain ⟨tx, htx, hcx⟩ := HCASE2.out
   rw [List.take_zero] at htx
   subst htx
   exact ⟨_, _, _, p, en', [], rfl, zaa ((HS2 _).out.drewN _), zaa (HCF.out _ _), zaa ⟨Sl.nil_any _ _ _ (by intro h; cases h), (fun q hq o ho => by injection hq with hq; injection ho with ho; subst hq ho; rfl), hp, hcx⟩⟩
  ·obtain ⟨t, ht⟩ : ∃ t, p + m = t := ⟨_, rfl⟩
   have htI : (p : Int) + (m : Int) = (t : Int) := by omega
   have t1 : p ≤ t := by omega
   have t2 : t ≤ n := by omega
   have t3 : t ≤ cap := by omega
   have t4 : (p : Int) ≤ (t : Int) := by omega
   have t5 : (t : Int) ≤ (cap : Int) := by omega
   have t6 : t - p = m := by omega
   have t7 : ¬ t = p := by omega
   have HS2 : ∀ q, Hid (Rd ((w1.drewN q).setCell ⟨r, 1, none⟩ (.int .i64 (t : Int))) r (some ⟨g, off, none⟩) n cap t en') := fun q => zaa (Rd.set1 (HR.out.drewN q) t)
   have x0 := fun q => (HS2 q).out.c0
   have x1 := fun q => (HS2 q).out.c1
   have HCF : Hid (∀ q q' : Nat, Cf (· = r) w (((w1.drewN q).setCell ⟨r, 1, none⟩ (.int .i64 (t : Int))).drewN q')) := zaa fun q q' => ((HC.out.go (Cf.drew _ _ _)).go (Cf.set _ _ _ _)).go (Cf.drew _ _ _)
   have HCF1 : Hid (∀ q q' : Nat, Cf (· = r) w1 (((w1.drewN q).setCell ⟨r, 1, none⟩ (.int .i64 (t : Int))).drewN q')) := zaa fun q q' => ((Cf.drew _ _ _).go (Cf.set _ _ _ _)).go (Cf.drew _ _ _)
   have HSX := zaa (HS1.out.piece p m m (by omega) Lr)
   rw [ht] at HCASE2
   clear h HCASE ht
   go_wp2_with fail
   go_quiet (fail)
   go_wp2_with fail
   go_quiet (fail)
   go_wp2
   go_ret
   obtain ⟨tx, htx, hcx⟩ := HCASE2.out
   subst htx
   exact ⟨_, _, _, t, en', _, rfl, zaa ((HS2 _).out.drewN _), zaa (HCF.out _ _), zaa ⟨HSX.out.cf (HCF1.out _ _) HAP2.out, (fun q hq o ho => by injection hq with hq; injection ho with ho; subst hq ho; rfl), t2, hcx⟩⟩
def C5 (w : World) (g : Nat) (x0 x1 x2 x3 x4 : Value) : Prop := w.heap[g]? = some (.cells #[x0, x1, x2, x3, x4] 50 (0, 0))
theorem C5.cells {w : World} {g : Nat} {x0 x1 x2 x3 x4 : Value} (h : C5 w g x0 x1 x2 x3 x4) :
  w.cell? ⟨g, 0, none⟩ = some x0 ∧ w.cell? ⟨g, 1, none⟩ = some x1 ∧ w.cell? ⟨g, 2, none⟩ = some x2 ∧ w.cell? ⟨g, 3, none⟩ = some x3 ∧ w.cell? ⟨g, 4, none⟩ = some x4 := by
 unfold C5 at h
 refine ⟨?_, ?_, ?_, ?_, ?_⟩
 ·rw [cell_of_row _ _ 0 _ _ _ h]; rfl
 ·rw [cell_of_row _ _ 1 _ _ _ h]; rfl
 ·rw [cell_of_row _ _ 2 _ _ _ h]; rfl
 ·rw [cell_of_row _ _ 3 _ _ _ h]; rfl
 ·rw [cell_of_row _ _ 4 _ _ _ h]; rfl
theorem C5.free {w : World} {g : Nat} {x0 x1 x2 x3 x4 : Value} (h : C5 w g x0 x1 x2 x3 x4) : w.frozen? ⟨g, 0, none⟩ = false ∧ w.frozen? ⟨g, 1, none⟩ = false ∧ w.frozen? ⟨g, 2, none⟩ = false ∧ w.frozen? ⟨g, 3, none⟩ = false ∧ w.frozen? ⟨g, 4, none⟩ = false := by
 unfold C5 at h
 simp [World.frozen?, h]
theorem C5.set {w : World} {g : Nat} {x0 x1 x2 x3 x4 : Value} (h : C5 w g x0 x1 x2 x3 x4) (y : Value) :
  C5 (w.setCell ⟨g, 0, none⟩ y) g y x1 x2 x3 x4 ∧ C5 (w.setCell ⟨g, 1, none⟩ y) g x0 y x2 x3 x4 ∧ C5 (w.setCell ⟨g, 2, none⟩ y) g x0 x1 y x3 x4 ∧ C5 (w.setCell ⟨g, 3, none⟩ y) g x0 x1 x2 y x4 ∧ C5 (w.setCell ⟨g, 4, none⟩ y) g x0 x1 x2 x3 y := by
 unfold C5 at *
 refine ⟨?_, ?_, ?_, ?_, ?_⟩
 ·simpa using zaw (w := w) (a := g) (i := 0) (cs := [x0, x1, x2, x3, x4]) (u := y) h
 ·simpa using zaw (w := w) (a := g) (i := 1) (cs := [x0, x1, x2, x3, x4]) (u := y) h
 ·simpa using zaw (w := w) (a := g) (i := 2) (cs := [x0, x1, x2, x3, x4]) (u := y) h
 ·simpa using zaw (w := w) (a := g) (i := 3) (cs := [x0, x1, x2, x3, x4]) (u := y) h
 ·simpa using zaw (w := w) (a := g) (i := 4) (cs := [x0, x1, x2, x3, x4]) (u := y) h
theorem C5.cf {w w' : World} {g : Nat} {x0 x1 x2 x3 x4 : Value} {F : Nat → Prop} (h : C5 w g x0 x1 x2 x3 x4) (hc : Cf F w w') (hg : ¬ F g) : C5 w' g x0 x1 x2 x3 x4 := (hc.block g (zaf h) hg).trans h
theorem Rd.cf {w w' : World} {r : Nat} {ao : Option Addr} {n cap at_ : Nat} {en : Bool} {F : Nat → Prop} (h : Rd w r ao n cap at_ en) (hc : Cf F w w') (hg : ¬ F r) : Rd w' r ao n cap at_ en := (hc.block r h.lt hg).trans h
structure Cs (w u : World) (k r g off n cap p : Nat) (en : Bool) (l : List Int) (x0 x1 x2 x3 x4 : Value) : Prop where
 rd : Rd u r (some ⟨g, off, none⟩) n cap p en
 sl : Sl u (some ⟨g, off, none⟩) n cap l
 c2 : C5 u k (.slice none 0 0) (.int .i64 0) (.slice none 0 0) (.int .i64 0) (.int .i64 0)
 c3 : C5 u (k + 1) x0 x1 x2 x3 x4
 cf : Cf (· = r) w u
 hk : k = w.heap.size
 hp : p ≤ n
theorem Cs.r_lt {w u : World} {k r g off n cap p : Nat} {en : Bool} {l : List Int} {x0 x1 x2 x3 x4 : Value} (h : Cs w u k r g off n cap p en l x0 x1 x2 x3 x4) (hr : r < w.heap.size) : ¬ k = r ∧ ¬ k + 1 = r := by
 have := h.hk
 omega
theorem Cs.number {w u : World} {k r g off n cap p : Nat} {en : Bool} {l : List Int} {x0 x1 x2 x3 x4 : Value} (h : Cs w u k r g off n cap p en l x0 x1 x2 x3 x4) (hr : r < w.heap.size) (x : Nat) (hx : x = 1 ∨ x = 2 ∨ x = 4) :
  Calls Tryz.prog 158 #[.pointer (some ⟨r, 0, none⟩), .int .i64 (x : Int)] u fun e w' => ∃ (v : Int) (p' : Nat) (en' : Bool), e = .returned (.int .i64 v) ∧ Hid (Cs w w' k r g off n cap p' en' l x0 x1 x2 x3 x4) ∧ Hid ((pNum x (l.drop p) = some (v, l.drop p') ∧ en' = en) ∨ (pNum x (l.drop p) = none ∧ en' = true)) ∧ Hid (Cf (· = r) u w') := by
 refine (number_any x l u r _ n cap p en hx h.rd h.sl h.hp).mono ?_
 rintro e w' ⟨v, p', en', rfl, HR, HC, HV⟩
 obtain ⟨h1, h2⟩ := h.r_lt hr
 obtain ⟨_, hp, hv⟩ := HV.out
 refine ⟨v, p', en', rfl, zaa ⟨HR.out, h.sl.cf HC.out (h.sl.apart h.rd), h.c2.cf HC.out h1, h.c3.cf HC.out h2, h.cf.go HC.out, h.hk, hp⟩, zaa ?_, HC⟩
 rcases hv with ⟨a, b⟩ | ⟨a, b, c, d⟩
 ·exact .inl ⟨a, b⟩
 ·exact .inr ⟨a, b⟩
theorem Cs.text {w u : World} {k r g off n cap p : Nat} {en : Bool} {l : List Int} {x0 x1 x2 x3 x4 : Value} (h : Cs w u k r g off n cap p en l x0 x1 x2 x3 x4) (hr : r < w.heap.size) :
  Calls Tryz.prog 159 #[.pointer (some ⟨r, 0, none⟩)] u fun e w' => ∃ (ko : Option Addr) (kn kc p' : Nat) (en' : Bool) (t : List Int), e = .returned (.slice ko kn kc) ∧ Hid (Cs w w' k r g off n cap p' en' l x0 x1 x2 x3 x4) ∧ Hid (Sl w' ko kn kc t ∧ ∀ q, ko = some q → q.block = g) ∧ Hid ((zap (l.drop p) = some (t, l.drop p') ∧ en' = en) ∨ (zap (l.drop p) = none ∧ en' = true)) ∧ Hid (Cf (· = r) u w') := by
 refine (text_any l u r g off n cap p en h.rd h.sl h.hp).mono ?_
 rintro e w' ⟨ko, kn, kc, p', en', t, rfl, HR, HC, HV⟩
 obtain ⟨h1, h2⟩ := h.r_lt hr
 obtain ⟨hs, hloc, hp, hv⟩ := HV.out
 exact ⟨ko, kn, kc, p', en', t, rfl, zaa ⟨HR.out, h.sl.cf HC.out (h.sl.apart h.rd), h.c2.cf HC.out h1, h.c3.cf HC.out h2, h.cf.go HC.out, h.hk, hp⟩, zaa ⟨hs, fun q hq => hloc q hq _ rfl⟩, zaa hv, HC⟩
theorem Sl.apart5 {w : World} {ao : Option Addr} {n cap : Nat} {l : List Int} (h : Sl w ao n cap l) {g : Nat} {a b : Option Addr} {c d e f : Nat} {x y z : Int} (hr : C5 w g (.slice a c d) (.int .i64 x) (.slice b e f) (.int .i64 y) (.int .i64 z)) : n = 0 ∨ ∀ p, ao = some p → ¬ p.block = g := by
 rcases h.hat with h0 | ⟨q, off, rfl, hg, hc⟩
 ·exact .inl h0
 ·rcases Nat.eq_zero_or_pos n with h0 | h0
  ·exact .inl h0
  ·right
   rintro p hp rfl
   injection hp with hp
   subst hp
   have h1 := hc 0 h0
   unfold C5 at hr
   rw [cell_of_row _ _ _ _ _ _ hr] at h1
   rcases Nat.lt_or_ge (off + 0) 5 with h3 | h3
   ·have h4 : off + 0 = 0 ∨ off + 0 = 1 ∨ off + 0 = 2 ∨ off + 0 = 3 ∨ off + 0 = 4 := by omega
    rcases h4 with h4 | h4 | h4 | h4 | h4 <;> (rw [h4] at h1; simp at h1)
   ·rw [Array.getElem?_eq_none (by simpa using h3)] at h1
    cases h1
theorem Cs.store {w u : World} {k r g off n cap p : Nat} {en : Bool} {l : List Int} {a b : Option Addr} {c d e f : Nat} {x y z : Int} (h : Cs w u k r g off n cap p en l (.slice a c d) (.int .i64 x) (.slice b e f) (.int .i64 y) (.int .i64 z)) (hr : r < w.heap.size) (i : Nat) (v : Value) {y0 y1 y2 y3 y4 : Value} (hy : C5 (u.setCell ⟨k + 1, i, none⟩ v) (k + 1) y0 y1 y2 y3 y4) :
  Cs w (u.setCell ⟨k + 1, i, none⟩ v) k r g off n cap p en l y0 y1 y2 y3 y4 := by
 obtain ⟨h1, h2⟩ := h.r_lt hr
 have hc := Cf.set u (k + 1) i v
 refine ⟨h.rd.cf hc (by omega), h.sl.cf hc (h.sl.apart5 h.c3), h.c2.cf hc (by omega), hy, ?_, h.hk, h.hp⟩
 refine h.cf.trans hc ?_
 intro j hj e
 have := h.hk
 omega
theorem Cs.number1 {w u : World} {k r g off n cap p : Nat} {en : Bool} {l : List Int} {x0 x1 x2 x3 x4 : Value} (h : Cs w u k r g off n cap p en l x0 x1 x2 x3 x4) (hr : r < w.heap.size) :
  Calls Tryz.prog 158 #[.pointer (some ⟨r, 0, none⟩), .int .i64 1] u fun e w' => ∃ (v : Int) (p' : Nat) (en' : Bool), e = .returned (.int .i64 v) ∧ Hid (Cs w w' k r g off n cap p' en' l x0 x1 x2 x3 x4) ∧ Hid ((pNum 1 (l.drop p) = some (v, l.drop p') ∧ en' = en) ∨ (pNum 1 (l.drop p) = none ∧ en' = true)) ∧ Hid (Cf (· = r) u w') := by
 simpa using h.number hr 1 (.inl rfl)
theorem Cs.number4 {w u : World} {k r g off n cap p : Nat} {en : Bool} {l : List Int} {x0 x1 x2 x3 x4 : Value} (h : Cs w u k r g off n cap p en l x0 x1 x2 x3 x4) (hr : r < w.heap.size) :
  Calls Tryz.prog 158 #[.pointer (some ⟨r, 0, none⟩), .int .i64 4] u fun e w' => ∃ (v : Int) (p' : Nat) (en' : Bool), e = .returned (.int .i64 v) ∧ Hid (Cs w w' k r g off n cap p' en' l x0 x1 x2 x3 x4) ∧ Hid ((pNum 4 (l.drop p) = some (v, l.drop p') ∧ en' = en) ∨ (pNum 4 (l.drop p) = none ∧ en' = true)) ∧ Hid (Cf (· = r) u w') := by
 simpa using h.number hr 4 (.inr (.inr rfl))
def CellTo (l : List Int) (w : World) (r g off n cap at_ : Nat) (en : Bool) (e : Ending) (w' : World) : Prop :=
 ∃ (ko : Option Addr) (kn kc : Nat) (kd : Int) (vo : Option Addr) (vn vc : Nat) (pg ct : Int) (p : Nat) (en' : Bool) (key val : List Int), e = .returned (.agg #[.slice ko kn kc, .int .i64 kd, .slice vo vn vc, .int .i64 pg, .int .i64 ct]) ∧ Hid (Rd w' r (some ⟨g, off, none⟩) n cap p en') ∧ Hid (Cf (· = r) w w') ∧
  Hid (Sl w' ko kn kc key ∧ Sl w' vo vn vc val ∧ (∀ q, ko = some q → q.block = g) ∧ p ≤ n ∧ ((zaj (l.drop at_) = some (⟨key, kd, val, pg, ct⟩, l.drop p) ∧ en' = en) ∨ (zaj (l.drop at_) = none ∧ en' = true)))
theorem cellV {l : List Int} {a p1 p2 p3 : Nat} {en e1 e2 e3 : Bool} {key val : List Int} (h1 : (pNum 1 (l.drop a) = some (1, l.drop p1) ∧ e1 = en) ∨ (pNum 1 (l.drop a) = none ∧ e1 = true))
  (h2 : (zap (l.drop p1) = some (key, l.drop p2) ∧ e2 = e1) ∨ (zap (l.drop p1) = none ∧ e2 = true)) (h3 : (zap (l.drop p2) = some (val, l.drop p3) ∧ e3 = e2) ∨ (zap (l.drop p2) = none ∧ e3 = true)) :
  (zaj (l.drop a) = some (⟨key, 1, val, 0, 0⟩, l.drop p3) ∧ e3 = en) ∨ (zaj (l.drop a) = none ∧ e3 = true) := by
 unfold zaj
 rcases h1 with ⟨h1, rfl⟩ | ⟨h1, rfl⟩
 ·rw [h1]
  simp only
  rcases h2 with ⟨h2, rfl⟩ | ⟨h2, rfl⟩
  ·rw [h2]
   simp only [if_true]
   rcases h3 with ⟨h3, rfl⟩ | ⟨h3, rfl⟩
   ·rw [h3]; exact .inl ⟨rfl, rfl⟩
   ·rw [h3]; exact .inr ⟨rfl, rfl⟩
  ·rw [h2]
   refine .inr ⟨rfl, ?_⟩
   rcases h3 with ⟨_, h⟩ | ⟨_, h⟩ <;> exact h
 ·rw [h1]
  refine .inr ⟨rfl, ?_⟩
  rcases h2 with ⟨_, rfl⟩ | ⟨_, rfl⟩ <;> rcases h3 with ⟨_, h⟩ | ⟨_, h⟩ <;> exact h
theorem cellN {l : List Int} {a p1 p2 p3 p4 : Nat} {en e1 e2 e3 e4 : Bool} {key : List Int} {kd pg ct : Int} (hk : kd ≠ 1) (h1 : (pNum 1 (l.drop a) = some (kd, l.drop p1) ∧ e1 = en) ∨ (pNum 1 (l.drop a) = none ∧ e1 = true))
  (h2 : (zap (l.drop p1) = some (key, l.drop p2) ∧ e2 = e1) ∨ (zap (l.drop p1) = none ∧ e2 = true)) (h3 : (pNum 4 (l.drop p2) = some (pg, l.drop p3) ∧ e3 = e2) ∨ (pNum 4 (l.drop p2) = none ∧ e3 = true))
  (h4 : (pNum 4 (l.drop p3) = some (ct, l.drop p4) ∧ e4 = e3) ∨ (pNum 4 (l.drop p3) = none ∧ e4 = true)) :
  (zaj (l.drop a) = some (⟨key, kd, [], pg, ct⟩, l.drop p4) ∧ e4 = en) ∨ (zaj (l.drop a) = none ∧ e4 = true) := by
 unfold zaj
 rcases h1 with ⟨h1, rfl⟩ | ⟨h1, rfl⟩
 ·rw [h1]
  simp only
  rcases h2 with ⟨h2, rfl⟩ | ⟨h2, rfl⟩
  ·rw [h2]
   simp only [if_neg hk]
   rcases h3 with ⟨h3, rfl⟩ | ⟨h3, rfl⟩
   ·rw [h3]
    simp only
    rcases h4 with ⟨h4, rfl⟩ | ⟨h4, rfl⟩
    ·rw [h4]; exact .inl ⟨rfl, rfl⟩
    ·rw [h4]; exact .inr ⟨rfl, rfl⟩
   ·rw [h3]
    refine .inr ⟨rfl, ?_⟩
    rcases h4 with ⟨_, h⟩ | ⟨_, h⟩ <;> exact h
  ·rw [h2]
   refine .inr ⟨rfl, ?_⟩
   rcases h3 with ⟨_, rfl⟩ | ⟨_, rfl⟩ <;> rcases h4 with ⟨_, h⟩ | ⟨_, h⟩ <;> exact h
 ·rw [h1]
  refine .inr ⟨rfl, ?_⟩
  rcases h2 with ⟨_, rfl⟩ | ⟨_, rfl⟩ <;> rcases h3 with ⟨_, rfl⟩ | ⟨_, rfl⟩ <;> rcases h4 with ⟨_, h⟩ | ⟨_, h⟩ <;> exact h
def put5 (w : World) (g : Nat) (y0 y1 y2 y3 y4 : Value) : World := ((((w.setCell ⟨g, 0, none⟩ y0).setCell ⟨g, 1, none⟩ y1).setCell ⟨g, 2, none⟩ y2).setCell ⟨g, 3, none⟩ y3).setCell ⟨g, 4, none⟩ y4
theorem C5.put {w : World} {g : Nat} {x0 x1 x2 x3 x4 : Value} (h : C5 w g x0 x1 x2 x3 x4) (y0 y1 y2 y3 y4 : Value) : C5 (put5 w g y0 y1 y2 y3 y4) g y0 y1 y2 y3 y4 :=
 ((((((h.set y0).1).set y1).2.1.set y2).2.2.1.set y3).2.2.2.1.set y4).2.2.2.2
theorem zas (w : World) (g : Nat) (y0 y1 y2 y3 y4 : Value) : Cf (· = g) w (put5 w g y0 y1 y2 y3 y4) := ((((Cf.set _ _ _ _).go (Cf.set _ _ _ _)).go (Cf.set _ _ _ _)).go (Cf.set _ _ _ _)).go (Cf.set _ _ _ _)
theorem zal : (Tryz.prog.info? 50).map (·.size) = some 5 := by kernel_rfl
theorem Cs.fin {w u : World} {k r g off n cap p at_ : Nat} {en en' : Bool} {l : List Int} {ko vo : Option Addr} {kn kc vn vc : Nat} {kd pg ct : Int} (h : Cs w u k r g off n cap p en' l (.slice ko kn kc) (.int .i64 kd) (.slice vo vn vc) (.int .i64 pg) (.int .i64 ct)) (hr : r < w.heap.size) {key val : List Int}
  (hk : Sl u ko kn kc key) (hv : Sl u vo vn vc val) (hloc : ∀ q, ko = some q → q.block = g) (hc : (zaj (l.drop at_) = some (⟨key, kd, val, pg, ct⟩, l.drop p) ∧ en' = en) ∨ (zaj (l.drop at_) = none ∧ en' = true)) :
  CellTo l w r g off n cap at_ en (.returned (.agg #[.slice ko kn kc, .int .i64 kd, .slice vo vn vc, .int .i64 pg, .int .i64 ct])) (put5 u k (.slice ko kn kc) (.int .i64 kd) (.slice vo vn vc) (.int .i64 pg) (.int .i64 ct)) := by
 obtain ⟨h1, h2⟩ := h.r_lt hr
 have hf := zas u k (.slice ko kn kc) (.int .i64 kd) (.slice vo vn vc) (.int .i64 pg) (.int .i64 ct)
 refine ⟨ko, kn, kc, kd, vo, vn, vc, pg, ct, p, en', key, val, rfl, zaa (h.rd.cf hf (by omega)), zaa (h.cf.trans hf ?_), zaa ⟨hk.cf hf (hk.apart5 h.c2), hv.cf hf (hv.apart5 h.c2), hloc, h.hp, hc⟩⟩
 intro j hj e
 have := h.hk
 omega
theorem cell_any (l : List Int) (w : World) (r g off n cap at_ : Nat) (en : Bool) (hr : Rd w r (some ⟨g, off, none⟩) n cap at_ en) (hs : Sl w (some ⟨g, off, none⟩) n cap l) (ha : at_ ≤ n) :
  Calls Tryz.prog 120 #[.pointer (some ⟨r, 0, none⟩)] w fun e w' => CellTo l w r g off n cap at_ en e w' := by
 have hrl := hr.lt
 obtain ⟨k, hk⟩ : ∃ k, w.heap.size = k := ⟨_, rfl⟩
 obtain ⟨u, hu⟩ : ∃ u, (w.alloc (.cells #[.slice none 0 0, .int .i64 0, .slice none 0 0, .int .i64 0, .int .i64 0] 50)).alloc (.cells #[.slice none 0 0, .int .i64 0, .slice none 0 0, .int .i64 0, .int .i64 0] 50) = u := ⟨_, rfl⟩
 have HC0 : Hid (Cs w u k r g off n cap at_ en l (.slice none 0 0) (.int .i64 0) (.slice none 0 0) (.int .i64 0) (.int .i64 0)) := by
  have hc : Cf (· = r) w u := by rw [← hu]; exact (Cf.alloc _ _ _).go (Cf.alloc _ _ _)
  refine zaa ⟨?_, ?_, ?_, ?_, hc, hk.symm, ha⟩
  ·rw [← hu]
   exact (Below.heap_alloc _ _ _ (by simp; omega)).trans ((Below.heap_alloc _ _ _ hrl).trans hr)
  ·rw [← hu]
   exact hs.on Lr (zad (zad Br Lr _) Lr _)
  ·rw [← hu, ← hk]
   exact (Below.heap_alloc _ _ _ (by simp)).trans (heap_alloc_last w _)
  ·rw [← hu, ← hk]
   have hz : (w.alloc (.cells #[.slice none 0 0, .int .i64 0, .slice none 0 0, .int .i64 0, .int .i64 0] 50)).heap.size = w.heap.size + 1 := by simp
   have := heap_alloc_last (w.alloc (.cells #[.slice none 0 0, .int .i64 0, .slice none 0 0, .int .i64 0, .int .i64 0] 50)) (.cells #[.slice none 0 0, .int .i64 0, .slice none 0 0, .int .i64 0, .int .i64 0] 50)
   rw [hz] at this
   exact this
 have N1 := zaa (HC0.out.number1 hrl)
 clear hr hs
 go_enter Tryz.func120, Tryz.ntmps120
 go_wp2_with (go_at_call 158; refine N1.out.mono ?_; rintro e w1 ⟨v1, p1, e1, rfl, HS1, HV1, HX1⟩; refine Hid.out ?_)
 apply zaa
 clear N1 HC0 hu
 obtain ⟨a0, a1, a2, a3, a4⟩ := HS1.out.c3.cells
 obtain ⟨f0, f1, f2, f3, f4⟩ := HS1.out.c3.free
 have HT1 := zaa (HS1.out.store hrl 1 (.int .i64 v1) (HS1.out.c3.set (.int .i64 v1)).2.1)
 have T1 := zaa (HT1.out.text hrl)
 go_wp2_with (go_at_call 159; refine T1.out.mono ?_; rintro e w2 ⟨ko, kn, kc, p2, e2, key, rfl, HS2, HK2L, HV2, HX2⟩; refine Hid.out ?_)
 apply zaa
 have HK2 := zaa HK2L.out.1
 have HLOC := zaa HK2L.out.2
 clear HK2L
 clear a0 a1 a2 a3 a4 f0 f1 f2 f3 f4 T1 HT1 HS1
 obtain ⟨a0, a1, a2, a3, a4⟩ := HS2.out.c3.cells
 obtain ⟨f0, f1, f2, f3, f4⟩ := HS2.out.c3.free
 have HT2 := zaa (HS2.out.store hrl 0 (.slice ko kn kc) (HS2.out.c3.set (.slice ko kn kc)).1)
 have HK2a : Hid (Sl (w2.setCell ⟨k + 1, 0, none⟩ (.slice ko kn kc)) ko kn kc key) := zaa (HK2.out.cf (Cf.set _ _ _ _) (HK2.out.apart5 HS2.out.c3))
 by_cases h1 : v1 = 1
 ·subst h1
  have T2 := zaa (HT2.out.text hrl)
  go_wp2_with (go_at_call 159; refine T2.out.mono ?_; rintro e w3 ⟨vo, vn, vc, p3, e3, val, rfl, HS3, HK3L, HV3, HX3⟩; refine Hid.out ?_)
  apply zaa
  have HK3 := zaa HK3L.out.1
  clear HK3L
  have HK3a : Hid (Sl w3 ko kn kc key) := zaa (HK2a.out.cf HX3.out (HK2a.out.apart HT2.out.rd))
  clear a0 a1 a2 a3 a4 f0 f1 f2 f3 f4 T2 HT2 HS2 HK2a
  obtain ⟨a0, a1, a2, a3, a4⟩ := HS3.out.c3.cells
  obtain ⟨f0, f1, f2, f3, f4⟩ := HS3.out.c3.free
  obtain ⟨b0, b1, b2, b3, b4⟩ := HS3.out.c2.cells
  obtain ⟨d0, d1, d2, d3, d4⟩ := HS3.out.c2.free
  have HT3 := zaa (HS3.out.store hrl 2 (.slice vo vn vc) (HS3.out.c3.set (.slice vo vn vc)).2.2.1)
  have HK3b : Hid (Sl (w3.setCell ⟨k + 1, 2, none⟩ (.slice vo vn vc)) ko kn kc key) := zaa (HK3a.out.cf (Cf.set _ _ _ _) (HK3a.out.apart5 HS3.out.c3))
  have HK3c : Hid (Sl (w3.setCell ⟨k + 1, 2, none⟩ (.slice vo vn vc)) vo vn vc val) := zaa (HK3.out.cf (Cf.set _ _ _ _) (HK3.out.apart5 HS3.out.c3))
  have HV := zaa (cellV HV1.out HV2.out HV3.out)
  clear HS3 HK3 HK3a HV1 HV2 HV3 HX1 HX2 HX3 HK2
  go_wp2
  refine bodyPost_ret (results_cell_row rfl _ _ k 50 #[.slice ko kn kc, .int .i64 1, .slice vo vn vc, .int .i64 0, .int .i64 0] (0, 0) _ (by rfl) (HT3.out.c2.put _ _ _ _ _) Tryz.underlying50 rfl zal) rfl ?_
  exact HT3.out.fin hrl HK3b.out HK3c.out HLOC.out HV.out
 ·have T2 := zaa (HT2.out.number4 hrl)
  go_wp2_with (go_at_call 158; refine T2.out.mono ?_; rintro e w3 ⟨pg, p3, e3, rfl, HS3, HV3, HX3⟩; refine Hid.out ?_)
  apply zaa
  have HK3a : Hid (Sl w3 ko kn kc key) := zaa (HK2a.out.cf HX3.out (HK2a.out.apart HT2.out.rd))
  clear a0 a1 a2 a3 a4 f0 f1 f2 f3 f4 T2 HT2 HS2 HK2a
  obtain ⟨a0, a1, a2, a3, a4⟩ := HS3.out.c3.cells
  obtain ⟨f0, f1, f2, f3, f4⟩ := HS3.out.c3.free
  have HT3 := zaa (HS3.out.store hrl 3 (.int .i64 pg) (HS3.out.c3.set (.int .i64 pg)).2.2.2.1)
  have HK3b : Hid (Sl (w3.setCell ⟨k + 1, 3, none⟩ (.int .i64 pg)) ko kn kc key) := zaa (HK3a.out.cf (Cf.set _ _ _ _) (HK3a.out.apart5 HS3.out.c3))
  have T3 := zaa (HT3.out.number4 hrl)
  go_wp2_with (go_at_call 158; refine T3.out.mono ?_; rintro e w4 ⟨ct, p4, e4, rfl, HS4, HV4, HX4⟩; refine Hid.out ?_)
  apply zaa
  have HK4a : Hid (Sl w4 ko kn kc key) := zaa (HK3b.out.cf HX4.out (HK3b.out.apart HT3.out.rd))
  clear a0 a1 a2 a3 a4 f0 f1 f2 f3 f4 T3 HT3 HS3 HK3a HK3b
  obtain ⟨a0, a1, a2, a3, a4⟩ := HS4.out.c3.cells
  obtain ⟨f0, f1, f2, f3, f4⟩ := HS4.out.c3.free
  obtain ⟨b0, b1, b2, b3, b4⟩ := HS4.out.c2.cells
  obtain ⟨d0, d1, d2, d3, d4⟩ := HS4.out.c2.free
  have HT4 := zaa (HS4.out.store hrl 4 (.int .i64 ct) (HS4.out.c3.set (.int .i64 ct)).2.2.2.2)
  have HK4b : Hid (Sl (w4.setCell ⟨k + 1, 4, none⟩ (.int .i64 ct)) ko kn kc key) := zaa (HK4a.out.cf (Cf.set _ _ _ _) (HK4a.out.apart5 HS4.out.c3))
  have HV := zaa (cellN h1 HV1.out HV2.out HV3.out HV4.out)
  clear HS4 HK4a HV1 HV2 HV3 HV4 HX1 HX2 HX3 HX4 HK2
  go_wp2
  refine bodyPost_ret (results_cell_row rfl _ _ k 50 #[.slice ko kn kc, .int .i64 v1, .slice none 0 0, .int .i64 pg, .int .i64 ct] (0, 0) _ (by rfl) (HT4.out.c2.put _ _ _ _ _) Tryz.underlying50 rfl zal) rfl ?_
  exact HT4.out.fin hrl HK4b.out (Sl.nil_any _ _ _ fun _ => rfl) HLOC.out HV.out
end Go.Proofs.YtbkhjeacmmbabaaGreatDoor
