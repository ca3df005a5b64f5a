/- plain.reader: number, text and cell: what they read of bytes. -/
import Derived.Test.YtddjepdgigeelabDoorJc
import Derived.Laws.AppendOwnNone
import Derived.Maps.AppendAt
namespace Go.Proofs.YtddjepdgigeelabDoor
open Go.RowKit

/-- Behind w' all blocks that w had are as they were, but those of F. -/
structure Cf (F : Nat → Prop) (w w' : World) : Prop where
  os : w'.os = w.os
  tape : w'.tape = w.tape
  output : w'.output = w.output
  size : w.heap.size ≤ w'.heap.size
  block : ∀ k, k < w.heap.size → ¬ F k → w'.heap[k]? = w.heap[k]?
set_option maxRecDepth 100000 in
theorem Cf.refl (F : Nat → Prop) (w : World) : Cf F w w := ⟨rfl, rfl, rfl, Nat.le_refl _, fun _ _ _ => rfl⟩
set_option maxRecDepth 100000 in
theorem Cf.trans {F G : Nat → Prop} {a b c : World} (h : Cf F a b) (k : Cf G b c) (hG : ∀ i, i < a.heap.size → G i → F i) : Cf F a c :=
  ⟨k.os.trans h.os, k.tape.trans h.tape, k.output.trans h.output, Nat.le_trans h.size k.size, fun i hi hf => (k.block i (Nat.lt_of_lt_of_le hi h.size) fun g => hf (hG i hi g)).trans (h.block i hi hf)⟩
set_option maxRecDepth 100000 in
theorem Cf.go {F : Nat → Prop} {a b c : World} (h : Cf F a b) (k : Cf F b c) : Cf F a c := h.trans k fun _ _ g => g
set_option maxRecDepth 100000 in
theorem Cf.of_below {F : Nat → Prop} {a b : World} (h : Below a.heap.size a b) : Cf F a b := ⟨h.os, h.tape, h.output, h.size, fun k hk _ => h.block k hk⟩
set_option maxRecDepth 100000 in
theorem Cf.below {F : Nat → Prop} {a b : World} {B : Nat} (h : Cf F a b) (hB : B ≤ a.heap.size) (hF : ∀ k, k < B → ¬ F k) : Below B a b := ⟨h.os, h.tape, h.output, h.size, fun k hk => h.block k (by omega) (hF k hk)⟩
set_option maxRecDepth 100000 in
theorem Cf.alloc (F : Nat → Prop) (w : World) (o : Obj) : Cf F w (w.alloc o) := ⟨rfl, rfl, rfl, by simp, fun k hk _ => Below.heap_alloc _ _ _ hk⟩
set_option maxRecDepth 100000 in
theorem Cf.setCell {F : Nat → Prop} (w : World) {p : Addr} (hp : F p.block) (u : Value) : Cf F w (w.setCell p u) :=
  ⟨rfl, rfl, rfl, by simp [World.setCell], fun k _ hk => Below.heap_setCell _ _ _ _ fun e => hk (e ▸ hp)⟩
set_option maxRecDepth 100000 in
theorem Cf.set (w : World) (r k : Nat) (u : Value) : Cf (· = r) w (w.setCell ⟨r, k, none⟩ u) := Cf.setCell (F := (· = r)) w (p := ⟨r, k, none⟩) rfl u
set_option maxRecDepth 100000 in
theorem Cf.drew (F : Nat → Prop) (w : World) (n : Nat) : Cf F w (w.drewN n) := ⟨rfl, rfl, rfl, Nat.le_refl _, fun _ _ _ => rfl⟩

/-- A reader. -/
def Rd (w : World) (r : Nat) (ao : Option Addr) (n cap at_ : Nat) (en : Bool) : Prop := w.heap[r]? = some (.cells #[.slice ao n cap, .int .i64 (at_ : Int), .bool en] 73 (0, 0))
set_option maxRecDepth 100000 in
theorem Rd.c0 {w : World} {r : Nat} {ao : Option Addr} {n cap at_ : Nat} {en : Bool} (h : Rd w r ao n cap at_ en) : w.cell? ⟨r, 0, none⟩ = some (.slice ao n cap) := by rw [cell_of_row _ _ 0 _ _ _ h]; rfl
set_option maxRecDepth 100000 in
theorem Rd.c1 {w : World} {r : Nat} {ao : Option Addr} {n cap at_ : Nat} {en : Bool} (h : Rd w r ao n cap at_ en) : w.cell? ⟨r, 1, none⟩ = some (.int .i64 (at_ : Int)) := by rw [cell_of_row _ _ 1 _ _ _ h]; rfl
set_option maxRecDepth 100000 in
theorem Rd.c2 {w : World} {r : Nat} {ao : Option Addr} {n cap at_ : Nat} {en : Bool} (h : Rd w r ao n cap at_ en) : w.cell? ⟨r, 2, none⟩ = some (.bool en) := by rw [cell_of_row _ _ 2 _ _ _ h]; rfl
set_option maxRecDepth 100000 in
theorem Rd.free {w : World} {r : Nat} {ao : Option Addr} {n cap at_ : Nat} {en : Bool} (h : Rd w r ao n cap at_ en) (k : Nat) : w.frozen? ⟨r, k, none⟩ = false := by
  unfold Rd at h
  simp [World.frozen?, h]
set_option maxRecDepth 100000 in
theorem Rd.drewN {w : World} {r : Nat} {ao : Option Addr} {n cap at_ : Nat} {en : Bool} (h : Rd w r ao n cap at_ en) (q : Nat) : Rd (w.drewN q) r ao n cap at_ en := h
set_option maxRecDepth 100000 in
theorem Rd.lt {w : World} {r : Nat} {ao : Option Addr} {n cap at_ : Nat} {en : Bool} (h : Rd w r ao n cap at_ en) : r < w.heap.size := lt_some h
set_option maxRecDepth 100000 in
theorem Rd.set1 {w : World} {r : Nat} {ao : Option Addr} {n cap at_ : Nat} {en : Bool} (h : Rd w r ao n cap at_ en) (x : Nat) : Rd (w.setCell ⟨r, 1, none⟩ (.int .i64 (x : Int))) r ao n cap x en := by
  unfold Rd at *
  have := set_row (w := w) (a := r) (cs := [.slice ao n cap, .int .i64 (at_ : Int), .bool en]) (i := 1) (u := .int .i64 (x : Int)) h
  simpa using this
set_option maxRecDepth 100000 in
theorem Rd.set2 {w : World} {r : Nat} {ao : Option Addr} {n cap at_ : Nat} {en : Bool} (h : Rd w r ao n cap at_ en) (x : Bool) : Rd (w.setCell ⟨r, 2, none⟩ (.bool x)) r ao n cap at_ x := by
  unfold Rd at *
  have := set_row (w := w) (a := r) (cs := [.slice ao n cap, .int .i64 (at_ : Int), .bool en]) (i := 2) (u := .bool x) h
  simpa using this
set_option maxRecDepth 100000 in
/-- The bytes don't lie in the reader. -/
theorem Sl.apart {w : World} {ao : Option Addr} {n cap : Nat} {l : List Int} (h : Sl w ao n cap l) {r : Nat} {a : Option Addr} {b c d : Nat} {en : Bool} (hr : Rd w r a b c d en) : n = 0 ∨ ∀ p, ao = some p → p.block ≠ r := by
  rcases h.hat with h0 | ⟨g, off, rfl, hg, hc⟩
  · exact .inl h0
  · rcases Nat.eq_zero_or_pos n with h0 | h0
    · exact .inl h0
    · right
      rintro p hp rfl
      injection hp with hp
      subst hp
      have h1 := hc 0 h0
      rw [cell_of_row _ _ _ _ _ _ hr] at h1
      rcases Nat.lt_or_ge (off + 0) 3 with h3 | h3
      · have h4 : off + 0 = 0 ∨ off + 0 = 1 ∨ off + 0 = 2 := by omega
        rcases h4 with h4 | h4 | h4 <;> (rw [h4] at h1; simp at h1)
      · rw [Array.getElem?_eq_none (by simpa using h3)] at h1
        cases h1
set_option maxRecDepth 100000 in
theorem Sl.cf {w w' : World} {ao : Option Addr} {n cap : Nat} {l : List Int} {F : Nat → Prop} (h : Sl w ao n cap l) (hc : Cf F w w') (hf : n = 0 ∨ ∀ p, ao = some p → ¬ F p.block) : Sl w' ao n cap l := by
  refine ⟨h.hlen, h.hcap, h.hroom, h.wf, h.hnil, ?_⟩
  rcases h.hat with h0 | ⟨b, off, e, hlt, hcl⟩
  · exact .inl h0
  · rcases hf with h0 | hf
    · exact .inl h0
    · refine .inr ⟨b, off, e, Nat.lt_of_lt_of_le hlt hc.size, fun i hi => ?_⟩
      have := hc.block b hlt (hf _ e)
      rw [← hcl i hi]
      simp only [World.cell?, this]

/-- What number comes to. -/
def NumTo (x : Nat) (l : List Int) (w : World) (r : Nat) (ao : Option Addr) (n cap at_ : Nat) (en : Bool) (e : Ending) (w' : World) : Prop :=
  ∃ (v : Int) (p : Nat) (en' : Bool), e = .returned (.int .i64 v) ∧ Hid (Rd w' r ao n cap p en') ∧ Hid (Cf (· = r) w w') ∧ Hid ((0 ≤ v ∧ v < 256 ^ x) ∧ p ≤ n ∧ ((pNum x (l.drop at_) = some (v, l.drop p) ∧ en' = en) ∨ (pNum x (l.drop at_) = none ∧ en' = true ∧ v = 0 ∧ p = at_)))

set_option maxRecDepth 100000 in
set_option maxHeartbeats 1000000 in
theorem number_any (x : Nat) (l : List Int) (w : World) (r : Nat) (ao : Option Addr) (n cap at_ : Nat) (en : Bool) (hx : x = 1 ∨ x = 2 ∨ x = 4) (hr : Rd w r ao n cap at_ en) (hs : Sl w ao n cap l) (ha : at_ ≤ n) :
    Calls Tryd.prog 63 #[.pointer (some ⟨r, 0, none⟩), .int .i64 (x : Int)] w fun e w' => NumTo x l w r ao n cap at_ en e w' := by
  have c0 := hr.c0
  have c1 := hr.c1
  have c2 := hr.c2
  have f1 := hr.free 1
  have f2 := hr.free 2
  have hn := hs.hroom
  have HR := hidden hr
  have hlen := hs.hlen
  have hx0 : 1 ≤ (x : Int) ∧ (x : Int) ≤ 8 := by omega
  by_cases h : x ≤ n - at_
  · have HF : Hid (∀ q, Calls Tryd.prog 67 #[.slice ao n cap, .int .i64 (at_ : Int), .int .i64 (x : Int)] (w.drewN q) fun e w' => e = .returned (.tuple #[.int .u64 (rdB ((l.drop at_).take x)), .int .i64 0]) ∧ w' = w.drewN q) :=
      hidden fun q => by simpa using readFixed_ok ao n cap l (at_ : Int) (x : Int) (w.drewN q) (hs.drewN q) hx0.1 hx0.2 (by omega) (by omega)
    have hp : pNum x (l.drop at_) = some (rdB ((l.drop at_).take x), l.drop (at_ + x)) := by
      unfold pNum
      rw [if_neg (by rw [List.length_drop]; omega), List.drop_drop]
    have hb := rdB_bound ((l.drop at_).take x) ((hs.wf.drop at_).take x)
    rw [show ((l.drop at_).take x).length = x from by rw [List.length_take, List.length_drop]; omega] at hb
    have HB := hidden hb
    have hb8 : rdB ((l.drop at_).take x) < 4294967296 := by rcases hx with rfl | rfl | rfl <;> omega
    generalize rdB ((l.drop at_).take x) = v at *
    have hv0 := hb.1
    have HP := hidden hp
    clear hp hb hs
    have hw : wrap64 v = v := by simp [wrap64]; omega
    have HS : ∀ q, Hid (Rd ((w.drewN q).setCell ⟨r, 1, none⟩ (.int .i64 ((at_ + x : Nat) : Int))) r ao n cap (at_ + x) en) := fun q => hidden (Rd.set1 (HR.out.drewN q) (at_ + x))
    go_enter Tryd.func63, Tryd.ntmps63
    go_wp2_with fail
    go_quiet (first | (go_at_call 67; exact Calls.quiet_of_same (HF.out _)))
    go_wp2
    go_ret
    exact ⟨v, at_ + x, en, rfl, by simpa using HS _, hidden ((Cf.drew _ _ _).go (Cf.set _ _ _ _)), hidden ⟨HB.out, by omega, .inl ⟨HP.out, rfl⟩⟩⟩
  · have HF : Hid (∀ q, Calls Tryd.prog 67 #[.slice ao n cap, .int .i64 (at_ : Int), .int .i64 (x : Int)] (w.drewN q) fun e w' => e = .returned (.tuple #[.int .u64 0, .int .i64 10]) ∧ w' = w.drewN q) :=
      hidden fun q => by simpa using readFixed_short ao n cap (at_ : Int) (x : Int) (w.drewN q) hx0.1 hx0.2 (by omega) (by omega) (by omega)
    have hp : pNum x (l.drop at_) = none := by
      unfold pNum
      rw [if_pos (by rw [List.length_drop]; omega)]
    have HP := hidden hp
    clear hp hs
    go_enter Tryd.func63, Tryd.ntmps63
    go_wp2_with fail
    go_quiet (first | (go_at_call 67; exact Calls.quiet_of_same (HF.out _)))
    go_wp2
    go_ret
    exact ⟨0, at_, true, rfl, hidden (Rd.set2 (HR.out.drewN _) true), hidden ((Cf.drew _ _ _).go (Cf.set _ _ _ _)), hidden ⟨⟨by omega, Int.pow_pos (by omega)⟩, ha, .inr ⟨HP.out, rfl, rfl, rfl⟩⟩⟩
end Go.Proofs.YtddjepdgigeelabDoor

/- plain.reader.text. -/

namespace Go.Proofs.YtddjepdgigeelabDoor
open Go.RowKit

set_option maxRecDepth 100000 in
/-- A piece of bytes. -/
theorem Sl.piece {w : World} {g off n cap : Nat} {l : List Int} (h : Sl w (some ⟨g, off, none⟩) n cap l) (a k c : Nat) (hk : a + k ≤ n) (hc : k ≤ c) : Sl w (some ⟨g, off + a, none⟩) k c ((l.drop a).take k) := by
  have hl := h.hlen
  refine ⟨by rw [List.length_take, List.length_drop]; omega, hc, Nat.le_trans (by omega) h.hroom, (h.wf.drop a).take k, (by intro e; cases e), ?_⟩
  rcases h.hat with h0 | ⟨b, o, e, hlt, hcl⟩
  · exact .inl (by omega)
  · injection e with e
    injection e with e1 e2
    subst e1 e2
    refine .inr ⟨g, off + a, rfl, hlt, fun i hi => ?_⟩
    rw [Nat.add_assoc, hcl (a + i) (by omega)]
    simp [List.getD, hi]
set_option maxRecDepth 100000 in
theorem Sl.nil_any (w : World) (ao : Option Addr) (c : Nat) (h : ao = none → c = 0) : Sl w ao 0 c [] := ⟨rfl, Nat.zero_le _, by omega, Wf.nil, h, .inl rfl⟩

/-- What text comes to. -/
def TextTo (l : List Int) (w : World) (r : Nat) (ao : Option Addr) (n cap at_ : Nat) (en : Bool) (e : Ending) (w' : World) : Prop :=
  ∃ (ko : Option Addr) (kn kc p : Nat) (en' : Bool) (t : List Int), e = .returned (.slice ko kn kc) ∧ Hid (Rd w' r ao n cap p en') ∧ Hid (Cf (· = r) w w') ∧ Hid (Sl w' ko kn kc t ∧ (∀ q, ko = some q → ∀ o, ao = some o → q.block = o.block) ∧ p ≤ n ∧ ((pText (l.drop at_) = some (t, l.drop p) ∧ en' = en) ∨ (pText (l.drop at_) = none ∧ en' = true)))

set_option maxRecDepth 100000 in
set_option maxHeartbeats 1000000 in
theorem text_any (l : List Int) (w : World) (r g off n cap at_ : Nat) (en : Bool) (hr : Rd w r (some ⟨g, off, none⟩) n cap at_ en) (hs : Sl w (some ⟨g, off, none⟩) n cap l) (ha : at_ ≤ n) :
    Calls Tryd.prog 47 #[.pointer (some ⟨r, 0, none⟩)] w fun e w' => TextTo l w r (some ⟨g, off, none⟩) n cap at_ en e w' := by
  have HN := hidden (number_any 2 l w r (some ⟨g, off, none⟩) n cap at_ en (.inr (.inl rfl)) hr hs ha)
  have HS := hidden hs
  have HAP := hidden (hs.apart hr)
  have hn := hs.hroom
  have hcap := hs.hcap
  clear hr hs
  go_enter Tryd.func47, Tryd.ntmps47
  go_wp2_with (first | (go_at_call 63; refine HN.out.mono ?_; rintro e w1 ⟨v, p, en', rfl, HR, HC, HV⟩; refine Hid.out ?_))
  apply hidden
  clear HN
  obtain ⟨⟨hv0, hv1⟩, hp, hcase⟩ := HV.out
  clear HV
  have HCASE := hidden hcase
  clear hcase
  obtain ⟨m, rfl⟩ := Int.eq_ofNat_of_zero_le hv0
  have hm : m < 65536 := by omega
  clear hv0 hv1
  have HS1 : Hid (Sl w1 (some ⟨g, off, none⟩) n cap l) := hidden (HS.out.cf HC.out HAP.out)
  have c0 := HR.out.c0
  have c1 := HR.out.c1
  have c2 := HR.out.c2
  have f1 := HR.out.free 1
  have f2 := HR.out.free 2
  have HLEN := hidden HS.out.hlen
  by_cases h : (n : Int) - (p : Int) < (m : Int)
  · have d1 : decide ((n : Int) - (p : Int) < (m : Int)) = true := decide_eq_true h
    have HQ : Hid (pText (l.drop at_) = none) := by
      rcases HCASE.out with ⟨h1, h2⟩ | ⟨h1, h2, h3, h4⟩
      · refine hidden ?_
        unfold pText
        rw [h1]
        simp only
        rw [if_pos (by rw [List.length_drop, HLEN.out]; omega)]
      · omega
    go_wp2_with fail
    go_quiet (fail)
    go_wp2
    go_ret
    exact ⟨none, 0, 0, p, true, [], rfl, hidden (Rd.set2 (HR.out.drewN _) true), hidden ((HC.out.go (Cf.drew _ _ _)).go (Cf.set _ _ _ _)), hidden ⟨Sl.nil_any _ _ _ (fun _ => rfl), (by intro q hq; cases hq), hp, .inr ⟨HQ.out, rfl⟩⟩⟩
  · have d1 : decide ((n : Int) - (p : Int) < (m : Int)) = false := decide_eq_false h
    have HCASE2 : Hid (∃ tx, tx = (l.drop p).take m ∧ ((pText (l.drop at_) = some (tx, l.drop (p + m)) ∧ en' = en) ∨ (pText (l.drop at_) = none ∧ en' = true))) := by
      refine hidden ⟨(l.drop p).take m, rfl, ?_⟩
      rcases HCASE.out with ⟨h1, h2⟩ | ⟨h1, h2, h3, h4⟩
      · left
        refine ⟨?_, h2⟩
        unfold pText
        rw [h1]
        simp only
        rw [if_neg (by rw [List.length_drop, HLEN.out]; omega), Int.toNat_natCast, List.drop_drop]
      · right
        refine ⟨?_, h2⟩
        unfold pText
        rw [h1]
    have HAP2 : Hid (m = 0 ∨ ∀ q : Addr, some (⟨g, off + p, none⟩ : Addr) = some q → ¬ q.block = r) := by
      refine hidden ?_
      rcases HAP.out with h0 | h0
      · exact .inl (by omega)
      · exact .inr fun q hq => by injection hq with hq; subst hq; exact h0 ⟨g, off, none⟩ rfl
    by_cases hm0 : m = 0
    · subst hm0
      have p2 : p ≤ cap := by omega
      have p3 : (p : Int) ≤ (cap : Int) := by omega
      have HS2 : ∀ q, Hid (Rd ((w1.drewN q).setCell ⟨r, 1, none⟩ (.int .i64 (p : Int))) r (some ⟨g, off, none⟩) n cap p en') := fun q => hidden (Rd.set1 (HR.out.drewN q) p)
      have x0 := fun q => (HS2 q).out.c0
      have x1 := fun q => (HS2 q).out.c1
      have HCF : Hid (∀ q q' : Nat, Cf (· = r) w (((w1.drewN q).setCell ⟨r, 1, none⟩ (.int .i64 (p : Int))).drewN q')) := hidden fun q q' => ((HC.out.go (Cf.drew _ _ _)).go (Cf.set _ _ _ _)).go (Cf.drew _ _ _)
      clear h HAP2 HCASE
      go_wp2_with fail
      go_quiet (fail)
      go_wp2_with fail
      go_quiet (fail)
      go_wp2
      go_ret
      obtain ⟨tx, htx, hcx⟩ := HCASE2.out
      rw [List.take_zero] at htx
      subst htx
      exact ⟨_, _, _, p, en', [], rfl, hidden ((HS2 _).out.drewN _), hidden (HCF.out _ _), hidden ⟨Sl.nil_any _ _ _ (by intro h; cases h), (fun q hq o ho => by injection hq with hq; injection ho with ho; subst hq ho; rfl), hp, hcx⟩⟩
    · obtain ⟨t, ht⟩ : ∃ t, p + m = t := ⟨_, rfl⟩
      have htI : (p : Int) + (m : Int) = (t : Int) := by omega
      have t1 : p ≤ t := by omega
      have t2 : t ≤ n := by omega
      have t3 : t ≤ cap := by omega
      have t4 : (p : Int) ≤ (t : Int) := by omega
      have t5 : (t : Int) ≤ (cap : Int) := by omega
      have t6 : t - p = m := by omega
      have t7 : ¬ t = p := by omega
      have HS2 : ∀ q, Hid (Rd ((w1.drewN q).setCell ⟨r, 1, none⟩ (.int .i64 (t : Int))) r (some ⟨g, off, none⟩) n cap t en') := fun q => hidden (Rd.set1 (HR.out.drewN q) t)
      have x0 := fun q => (HS2 q).out.c0
      have x1 := fun q => (HS2 q).out.c1
      have HCF : Hid (∀ q q' : Nat, Cf (· = r) w (((w1.drewN q).setCell ⟨r, 1, none⟩ (.int .i64 (t : Int))).drewN q')) := hidden fun q q' => ((HC.out.go (Cf.drew _ _ _)).go (Cf.set _ _ _ _)).go (Cf.drew _ _ _)
      have HCF1 : Hid (∀ q q' : Nat, Cf (· = r) w1 (((w1.drewN q).setCell ⟨r, 1, none⟩ (.int .i64 (t : Int))).drewN q')) := hidden fun q q' => ((Cf.drew _ _ _).go (Cf.set _ _ _ _)).go (Cf.drew _ _ _)
      have HSX := hidden (HS1.out.piece p m m (by omega) (Nat.le_refl _))
      rw [ht] at HCASE2
      clear h HCASE ht
      go_wp2_with fail
      go_quiet (fail)
      go_wp2_with fail
      go_quiet (fail)
      go_wp2
      go_ret
      obtain ⟨tx, htx, hcx⟩ := HCASE2.out
      subst htx
      exact ⟨_, _, _, t, en', _, rfl, hidden ((HS2 _).out.drewN _), hidden (HCF.out _ _), hidden ⟨HSX.out.cf (HCF1.out _ _) HAP2.out, (fun q hq o ho => by injection hq with hq; injection ho with ho; subst hq ho; rfl), t2, hcx⟩⟩
end Go.Proofs.YtddjepdgigeelabDoor

/- plain.reader.cell. -/

namespace Go.Proofs.YtddjepdgigeelabDoor
open Go.RowKit

/-- A cell in a block of its own. -/
def C5 (w : World) (g : Nat) (x0 x1 x2 x3 x4 : Value) : Prop := w.heap[g]? = some (.cells #[x0, x1, x2, x3, x4] 30 (0, 0))
set_option maxRecDepth 100000 in
theorem C5.cells {w : World} {g : Nat} {x0 x1 x2 x3 x4 : Value} (h : C5 w g x0 x1 x2 x3 x4) :
    w.cell? ⟨g, 0, none⟩ = some x0 ∧ w.cell? ⟨g, 1, none⟩ = some x1 ∧ w.cell? ⟨g, 2, none⟩ = some x2 ∧ w.cell? ⟨g, 3, none⟩ = some x3 ∧ w.cell? ⟨g, 4, none⟩ = some x4 := by
  unfold C5 at h
  refine ⟨?_, ?_, ?_, ?_, ?_⟩
  · rw [cell_of_row _ _ 0 _ _ _ h]; rfl
  · rw [cell_of_row _ _ 1 _ _ _ h]; rfl
  · rw [cell_of_row _ _ 2 _ _ _ h]; rfl
  · rw [cell_of_row _ _ 3 _ _ _ h]; rfl
  · rw [cell_of_row _ _ 4 _ _ _ h]; rfl
set_option maxRecDepth 100000 in
theorem C5.free {w : World} {g : Nat} {x0 x1 x2 x3 x4 : Value} (h : C5 w g x0 x1 x2 x3 x4) : w.frozen? ⟨g, 0, none⟩ = false ∧ w.frozen? ⟨g, 1, none⟩ = false ∧ w.frozen? ⟨g, 2, none⟩ = false ∧ w.frozen? ⟨g, 3, none⟩ = false ∧ w.frozen? ⟨g, 4, none⟩ = false := by
  unfold C5 at h
  simp [World.frozen?, h]
set_option maxRecDepth 100000 in
theorem C5.set {w : World} {g : Nat} {x0 x1 x2 x3 x4 : Value} (h : C5 w g x0 x1 x2 x3 x4) (y : Value) :
    C5 (w.setCell ⟨g, 0, none⟩ y) g y x1 x2 x3 x4 ∧ C5 (w.setCell ⟨g, 1, none⟩ y) g x0 y x2 x3 x4 ∧ C5 (w.setCell ⟨g, 2, none⟩ y) g x0 x1 y x3 x4 ∧ C5 (w.setCell ⟨g, 3, none⟩ y) g x0 x1 x2 y x4 ∧ C5 (w.setCell ⟨g, 4, none⟩ y) g x0 x1 x2 x3 y := by
  unfold C5 at *
  refine ⟨?_, ?_, ?_, ?_, ?_⟩
  · simpa using set_row (w := w) (a := g) (i := 0) (cs := [x0, x1, x2, x3, x4]) (u := y) h
  · simpa using set_row (w := w) (a := g) (i := 1) (cs := [x0, x1, x2, x3, x4]) (u := y) h
  · simpa using set_row (w := w) (a := g) (i := 2) (cs := [x0, x1, x2, x3, x4]) (u := y) h
  · simpa using set_row (w := w) (a := g) (i := 3) (cs := [x0, x1, x2, x3, x4]) (u := y) h
  · simpa using set_row (w := w) (a := g) (i := 4) (cs := [x0, x1, x2, x3, x4]) (u := y) h
set_option maxRecDepth 100000 in
theorem C5.cf {w w' : World} {g : Nat} {x0 x1 x2 x3 x4 : Value} {F : Nat → Prop} (h : C5 w g x0 x1 x2 x3 x4) (hc : Cf F w w') (hg : ¬ F g) : C5 w' g x0 x1 x2 x3 x4 := (hc.block g (lt_some h) hg).trans h
set_option maxRecDepth 100000 in
theorem Rd.cf {w w' : World} {r : Nat} {ao : Option Addr} {n cap at_ : Nat} {en : Bool} {F : Nat → Prop} (h : Rd w r ao n cap at_ en) (hc : Cf F w w') (hg : ¬ F r) : Rd w' r ao n cap at_ en := (hc.block r h.lt hg).trans h

/-- cell, under way: its two blocks are k and k + 1. -/
structure Cs (w u : World) (k r g off n cap p : Nat) (en : Bool) (l : List Int) (x0 x1 x2 x3 x4 : Value) : Prop where
  rd : Rd u r (some ⟨g, off, none⟩) n cap p en
  sl : Sl u (some ⟨g, off, none⟩) n cap l
  c2 : C5 u k (.slice none 0 0) (.int .i64 0) (.slice none 0 0) (.int .i64 0) (.int .i64 0)
  c3 : C5 u (k + 1) x0 x1 x2 x3 x4
  cf : Cf (· = r) w u
  hk : k = w.heap.size
  hp : p ≤ n
set_option maxRecDepth 100000 in
theorem Cs.r_lt {w u : World} {k r g off n cap p : Nat} {en : Bool} {l : List Int} {x0 x1 x2 x3 x4 : Value} (h : Cs w u k r g off n cap p en l x0 x1 x2 x3 x4) (hr : r < w.heap.size) : ¬ k = r ∧ ¬ k + 1 = r := by
  have := h.hk
  omega
set_option maxRecDepth 100000 in
theorem Cs.number {w u : World} {k r g off n cap p : Nat} {en : Bool} {l : List Int} {x0 x1 x2 x3 x4 : Value} (h : Cs w u k r g off n cap p en l x0 x1 x2 x3 x4) (hr : r < w.heap.size) (x : Nat) (hx : x = 1 ∨ x = 2 ∨ x = 4) :
    Calls Tryd.prog 63 #[.pointer (some ⟨r, 0, none⟩), .int .i64 (x : Int)] u fun e w' => ∃ (v : Int) (p' : Nat) (en' : Bool), e = .returned (.int .i64 v) ∧ Hid (Cs w w' k r g off n cap p' en' l x0 x1 x2 x3 x4) ∧ Hid ((pNum x (l.drop p) = some (v, l.drop p') ∧ en' = en) ∨ (pNum x (l.drop p) = none ∧ en' = true)) ∧ Hid (Cf (· = r) u w') := by
  refine (number_any x l u r _ n cap p en hx h.rd h.sl h.hp).mono ?_
  rintro e w' ⟨v, p', en', rfl, HR, HC, HV⟩
  obtain ⟨h1, h2⟩ := h.r_lt hr
  obtain ⟨_, hp, hv⟩ := HV.out
  refine ⟨v, p', en', rfl, hidden ⟨HR.out, h.sl.cf HC.out (h.sl.apart h.rd), h.c2.cf HC.out h1, h.c3.cf HC.out h2, h.cf.go HC.out, h.hk, hp⟩, hidden ?_, HC⟩
  rcases hv with ⟨a, b⟩ | ⟨a, b, c, d⟩
  · exact .inl ⟨a, b⟩
  · exact .inr ⟨a, b⟩
set_option maxRecDepth 100000 in
theorem Cs.text {w u : World} {k r g off n cap p : Nat} {en : Bool} {l : List Int} {x0 x1 x2 x3 x4 : Value} (h : Cs w u k r g off n cap p en l x0 x1 x2 x3 x4) (hr : r < w.heap.size) :
    Calls Tryd.prog 47 #[.pointer (some ⟨r, 0, none⟩)] u fun e w' => ∃ (ko : Option Addr) (kn kc p' : Nat) (en' : Bool) (t : List Int), e = .returned (.slice ko kn kc) ∧ Hid (Cs w w' k r g off n cap p' en' l x0 x1 x2 x3 x4) ∧ Hid (Sl w' ko kn kc t ∧ ∀ q, ko = some q → q.block = g) ∧ Hid ((pText (l.drop p) = some (t, l.drop p') ∧ en' = en) ∨ (pText (l.drop p) = none ∧ en' = true)) ∧ Hid (Cf (· = r) u w') := by
  refine (text_any l u r g off n cap p en h.rd h.sl h.hp).mono ?_
  rintro e w' ⟨ko, kn, kc, p', en', t, rfl, HR, HC, HV⟩
  obtain ⟨h1, h2⟩ := h.r_lt hr
  obtain ⟨hs, hloc, hp, hv⟩ := HV.out
  exact ⟨ko, kn, kc, p', en', t, rfl, hidden ⟨HR.out, h.sl.cf HC.out (h.sl.apart h.rd), h.c2.cf HC.out h1, h.c3.cf HC.out h2, h.cf.go HC.out, h.hk, hp⟩, hidden ⟨hs, fun q hq => hloc q hq _ rfl⟩, hidden hv, HC⟩
set_option maxRecDepth 100000 in
/-- A slice of bytes does not lie in a cell's block. -/
theorem Sl.apart5 {w : World} {ao : Option Addr} {n cap : Nat} {l : List Int} (h : Sl w ao n cap l) {g : Nat} {a b : Option Addr} {c d e f : Nat} {x y z : Int} (hr : C5 w g (.slice a c d) (.int .i64 x) (.slice b e f) (.int .i64 y) (.int .i64 z)) : n = 0 ∨ ∀ p, ao = some p → ¬ p.block = g := by
  rcases h.hat with h0 | ⟨q, off, rfl, hg, hc⟩
  · exact .inl h0
  · rcases Nat.eq_zero_or_pos n with h0 | h0
    · exact .inl h0
    · right
      rintro p hp rfl
      injection hp with hp
      subst hp
      have h1 := hc 0 h0
      unfold C5 at hr
      rw [cell_of_row _ _ _ _ _ _ hr] at h1
      rcases Nat.lt_or_ge (off + 0) 5 with h3 | h3
      · have h4 : off + 0 = 0 ∨ off + 0 = 1 ∨ off + 0 = 2 ∨ off + 0 = 3 ∨ off + 0 = 4 := by omega
        rcases h4 with h4 | h4 | h4 | h4 | h4 <;> (rw [h4] at h1; simp at h1)
      · rw [Array.getElem?_eq_none (by simpa using h3)] at h1
        cases h1
set_option maxRecDepth 100000 in
/-- A store into the cell's block. -/
theorem Cs.store {w u : World} {k r g off n cap p : Nat} {en : Bool} {l : List Int} {a b : Option Addr} {c d e f : Nat} {x y z : Int} (h : Cs w u k r g off n cap p en l (.slice a c d) (.int .i64 x) (.slice b e f) (.int .i64 y) (.int .i64 z)) (hr : r < w.heap.size) (i : Nat) (v : Value) {y0 y1 y2 y3 y4 : Value} (hy : C5 (u.setCell ⟨k + 1, i, none⟩ v) (k + 1) y0 y1 y2 y3 y4) :
    Cs w (u.setCell ⟨k + 1, i, none⟩ v) k r g off n cap p en l y0 y1 y2 y3 y4 := by
  obtain ⟨h1, h2⟩ := h.r_lt hr
  have hc := Cf.set u (k + 1) i v
  refine ⟨h.rd.cf hc (by omega), h.sl.cf hc (h.sl.apart5 h.c3), h.c2.cf hc (by omega), hy, ?_, h.hk, h.hp⟩
  refine h.cf.trans hc ?_
  intro j hj e
  have := h.hk
  omega
end Go.Proofs.YtddjepdgigeelabDoor

/- plain.reader.cell: the walk. -/

namespace Go.Proofs.YtddjepdgigeelabDoor
open Go.RowKit

set_option maxRecDepth 100000 in
theorem Cs.number1 {w u : World} {k r g off n cap p : Nat} {en : Bool} {l : List Int} {x0 x1 x2 x3 x4 : Value} (h : Cs w u k r g off n cap p en l x0 x1 x2 x3 x4) (hr : r < w.heap.size) :
    Calls Tryd.prog 63 #[.pointer (some ⟨r, 0, none⟩), .int .i64 1] u fun e w' => ∃ (v : Int) (p' : Nat) (en' : Bool), e = .returned (.int .i64 v) ∧ Hid (Cs w w' k r g off n cap p' en' l x0 x1 x2 x3 x4) ∧ Hid ((pNum 1 (l.drop p) = some (v, l.drop p') ∧ en' = en) ∨ (pNum 1 (l.drop p) = none ∧ en' = true)) ∧ Hid (Cf (· = r) u w') := by
  simpa using h.number hr 1 (.inl rfl)
set_option maxRecDepth 100000 in
theorem Cs.number4 {w u : World} {k r g off n cap p : Nat} {en : Bool} {l : List Int} {x0 x1 x2 x3 x4 : Value} (h : Cs w u k r g off n cap p en l x0 x1 x2 x3 x4) (hr : r < w.heap.size) :
    Calls Tryd.prog 63 #[.pointer (some ⟨r, 0, none⟩), .int .i64 4] u fun e w' => ∃ (v : Int) (p' : Nat) (en' : Bool), e = .returned (.int .i64 v) ∧ Hid (Cs w w' k r g off n cap p' en' l x0 x1 x2 x3 x4) ∧ Hid ((pNum 4 (l.drop p) = some (v, l.drop p') ∧ en' = en) ∨ (pNum 4 (l.drop p) = none ∧ en' = true)) ∧ Hid (Cf (· = r) u w') := by
  simpa using h.number hr 4 (.inr (.inr rfl))
/-- What cell comes to. -/
def CellTo (l : List Int) (w : World) (r g off n cap at_ : Nat) (en : Bool) (e : Ending) (w' : World) : Prop :=
  ∃ (ko : Option Addr) (kn kc : Nat) (kd : Int) (vo : Option Addr) (vn vc : Nat) (pg ct : Int) (p : Nat) (en' : Bool) (key val : List Int), e = .returned (.agg #[.slice ko kn kc, .int .i64 kd, .slice vo vn vc, .int .i64 pg, .int .i64 ct]) ∧ Hid (Rd w' r (some ⟨g, off, none⟩) n cap p en') ∧ Hid (Cf (· = r) w w') ∧
    Hid (Sl w' ko kn kc key ∧ Sl w' vo vn vc val ∧ (∀ q, ko = some q → q.block = g) ∧ p ≤ n ∧ ((pCell (l.drop at_) = some (⟨key, kd, val, pg, ct⟩, l.drop p) ∧ en' = en) ∨ (pCell (l.drop at_) = none ∧ en' = true)))
set_option maxRecDepth 100000 in
theorem cellV {l : List Int} {a p1 p2 p3 : Nat} {en e1 e2 e3 : Bool} {key val : List Int} (h1 : (pNum 1 (l.drop a) = some (1, l.drop p1) ∧ e1 = en) ∨ (pNum 1 (l.drop a) = none ∧ e1 = true))
    (h2 : (pText (l.drop p1) = some (key, l.drop p2) ∧ e2 = e1) ∨ (pText (l.drop p1) = none ∧ e2 = true)) (h3 : (pText (l.drop p2) = some (val, l.drop p3) ∧ e3 = e2) ∨ (pText (l.drop p2) = none ∧ e3 = true)) :
    (pCell (l.drop a) = some (⟨key, 1, val, 0, 0⟩, l.drop p3) ∧ e3 = en) ∨ (pCell (l.drop a) = none ∧ e3 = true) := by
  unfold pCell
  rcases h1 with ⟨h1, rfl⟩ | ⟨h1, rfl⟩
  · rw [h1]
    simp only
    rcases h2 with ⟨h2, rfl⟩ | ⟨h2, rfl⟩
    · rw [h2]
      simp only [if_true]
      rcases h3 with ⟨h3, rfl⟩ | ⟨h3, rfl⟩
      · rw [h3]; exact .inl ⟨rfl, rfl⟩
      · rw [h3]; exact .inr ⟨rfl, rfl⟩
    · rw [h2]
      refine .inr ⟨rfl, ?_⟩
      rcases h3 with ⟨_, h⟩ | ⟨_, h⟩ <;> exact h
  · rw [h1]
    refine .inr ⟨rfl, ?_⟩
    rcases h2 with ⟨_, rfl⟩ | ⟨_, rfl⟩ <;> rcases h3 with ⟨_, h⟩ | ⟨_, h⟩ <;> exact h
set_option maxRecDepth 100000 in
theorem cellN {l : List Int} {a p1 p2 p3 p4 : Nat} {en e1 e2 e3 e4 : Bool} {key : List Int} {kd pg ct : Int} (hk : kd ≠ 1) (h1 : (pNum 1 (l.drop a) = some (kd, l.drop p1) ∧ e1 = en) ∨ (pNum 1 (l.drop a) = none ∧ e1 = true))
    (h2 : (pText (l.drop p1) = some (key, l.drop p2) ∧ e2 = e1) ∨ (pText (l.drop p1) = none ∧ e2 = true)) (h3 : (pNum 4 (l.drop p2) = some (pg, l.drop p3) ∧ e3 = e2) ∨ (pNum 4 (l.drop p2) = none ∧ e3 = true))
    (h4 : (pNum 4 (l.drop p3) = some (ct, l.drop p4) ∧ e4 = e3) ∨ (pNum 4 (l.drop p3) = none ∧ e4 = true)) :
    (pCell (l.drop a) = some (⟨key, kd, [], pg, ct⟩, l.drop p4) ∧ e4 = en) ∨ (pCell (l.drop a) = none ∧ e4 = true) := by
  unfold pCell
  rcases h1 with ⟨h1, rfl⟩ | ⟨h1, rfl⟩
  · rw [h1]
    simp only
    rcases h2 with ⟨h2, rfl⟩ | ⟨h2, rfl⟩
    · rw [h2]
      simp only [if_neg hk]
      rcases h3 with ⟨h3, rfl⟩ | ⟨h3, rfl⟩
      · rw [h3]
        simp only
        rcases h4 with ⟨h4, rfl⟩ | ⟨h4, rfl⟩
        · rw [h4]; exact .inl ⟨rfl, rfl⟩
        · rw [h4]; exact .inr ⟨rfl, rfl⟩
      · rw [h3]
        refine .inr ⟨rfl, ?_⟩
        rcases h4 with ⟨_, h⟩ | ⟨_, h⟩ <;> exact h
    · rw [h2]
      refine .inr ⟨rfl, ?_⟩
      rcases h3 with ⟨_, rfl⟩ | ⟨_, rfl⟩ <;> rcases h4 with ⟨_, h⟩ | ⟨_, h⟩ <;> exact h
  · rw [h1]
    refine .inr ⟨rfl, ?_⟩
    rcases h2 with ⟨_, rfl⟩ | ⟨_, rfl⟩ <;> rcases h3 with ⟨_, rfl⟩ | ⟨_, rfl⟩ <;> rcases h4 with ⟨_, h⟩ | ⟨_, h⟩ <;> exact h

/-- A cell written whole. -/
def put5 (w : World) (g : Nat) (y0 y1 y2 y3 y4 : Value) : World := ((((w.setCell ⟨g, 0, none⟩ y0).setCell ⟨g, 1, none⟩ y1).setCell ⟨g, 2, none⟩ y2).setCell ⟨g, 3, none⟩ y3).setCell ⟨g, 4, none⟩ y4
set_option maxRecDepth 100000 in
theorem C5.put {w : World} {g : Nat} {x0 x1 x2 x3 x4 : Value} (h : C5 w g x0 x1 x2 x3 x4) (y0 y1 y2 y3 y4 : Value) : C5 (put5 w g y0 y1 y2 y3 y4) g y0 y1 y2 y3 y4 :=
  ((((((h.set y0).1).set y1).2.1.set y2).2.2.1.set y3).2.2.2.1.set y4).2.2.2.2
set_option maxRecDepth 100000 in
theorem put5_cf (w : World) (g : Nat) (y0 y1 y2 y3 y4 : Value) : Cf (· = g) w (put5 w g y0 y1 y2 y3 y4) := ((((Cf.set _ _ _ _).go (Cf.set _ _ _ _)).go (Cf.set _ _ _ _)).go (Cf.set _ _ _ _)).go (Cf.set _ _ _ _)
set_option maxRecDepth 100000 in
theorem sizeCell : (Tryd.prog.info? 30).map (·.size) = some 5 := by kernel_rfl
set_option maxRecDepth 100000 in
/-- The end of cell. -/
theorem Cs.fin {w u : World} {k r g off n cap p at_ : Nat} {en en' : Bool} {l : List Int} {ko vo : Option Addr} {kn kc vn vc : Nat} {kd pg ct : Int} (h : Cs w u k r g off n cap p en' l (.slice ko kn kc) (.int .i64 kd) (.slice vo vn vc) (.int .i64 pg) (.int .i64 ct)) (hr : r < w.heap.size) {key val : List Int}
    (hk : Sl u ko kn kc key) (hv : Sl u vo vn vc val) (hloc : ∀ q, ko = some q → q.block = g) (hc : (pCell (l.drop at_) = some (⟨key, kd, val, pg, ct⟩, l.drop p) ∧ en' = en) ∨ (pCell (l.drop at_) = none ∧ en' = true)) :
    CellTo l w r g off n cap at_ en (.returned (.agg #[.slice ko kn kc, .int .i64 kd, .slice vo vn vc, .int .i64 pg, .int .i64 ct])) (put5 u k (.slice ko kn kc) (.int .i64 kd) (.slice vo vn vc) (.int .i64 pg) (.int .i64 ct)) := by
  obtain ⟨h1, h2⟩ := h.r_lt hr
  have hf := put5_cf u k (.slice ko kn kc) (.int .i64 kd) (.slice vo vn vc) (.int .i64 pg) (.int .i64 ct)
  refine ⟨ko, kn, kc, kd, vo, vn, vc, pg, ct, p, en', key, val, rfl, hidden (h.rd.cf hf (by omega)), hidden (h.cf.trans hf ?_), hidden ⟨hk.cf hf (hk.apart5 h.c2), hv.cf hf (hv.apart5 h.c2), hloc, h.hp, hc⟩⟩
  intro j hj e
  have := h.hk
  omega

set_option maxRecDepth 100000 in
set_option maxHeartbeats 1000000 in
theorem cell_any (l : List Int) (w : World) (r g off n cap at_ : Nat) (en : Bool) (hr : Rd w r (some ⟨g, off, none⟩) n cap at_ en) (hs : Sl w (some ⟨g, off, none⟩) n cap l) (ha : at_ ≤ n) :
    Calls Tryd.prog 43 #[.pointer (some ⟨r, 0, none⟩)] w fun e w' => CellTo l w r g off n cap at_ en e w' := by
  have hrl := hr.lt
  obtain ⟨k, hk⟩ : ∃ k, w.heap.size = k := ⟨_, rfl⟩
  obtain ⟨u, hu⟩ : ∃ u, (w.alloc (.cells #[.slice none 0 0, .int .i64 0, .slice none 0 0, .int .i64 0, .int .i64 0] 30)).alloc (.cells #[.slice none 0 0, .int .i64 0, .slice none 0 0, .int .i64 0, .int .i64 0] 30) = u := ⟨_, rfl⟩
  have HC0 : Hid (Cs w u k r g off n cap at_ en l (.slice none 0 0) (.int .i64 0) (.slice none 0 0) (.int .i64 0) (.int .i64 0)) := by
    have hc : Cf (· = r) w u := by rw [← hu]; exact (Cf.alloc _ _ _).go (Cf.alloc _ _ _)
    refine hidden ⟨?_, ?_, ?_, ?_, hc, hk.symm, ha⟩
    · rw [← hu]
      exact (Below.heap_alloc _ _ _ (by simp; omega)).trans ((Below.heap_alloc _ _ _ hrl).trans hr)
    · rw [← hu]
      exact hs.on (Nat.le_refl _) (bl_al (bl_al (Below.refl _ _) (Nat.le_refl _) _) (Nat.le_refl _) _)
    · rw [← hu, ← hk]
      exact (Below.heap_alloc _ _ _ (by simp)).trans (heap_alloc_last w _)
    · rw [← hu, ← hk]
      have hz : (w.alloc (.cells #[.slice none 0 0, .int .i64 0, .slice none 0 0, .int .i64 0, .int .i64 0] 30)).heap.size = w.heap.size + 1 := by simp
      have := heap_alloc_last (w.alloc (.cells #[.slice none 0 0, .int .i64 0, .slice none 0 0, .int .i64 0, .int .i64 0] 30)) (.cells #[.slice none 0 0, .int .i64 0, .slice none 0 0, .int .i64 0, .int .i64 0] 30)
      rw [hz] at this
      exact this
  have N1 := hidden (HC0.out.number1 hrl)
  clear hr hs
  go_enter Tryd.func43, Tryd.ntmps43
  go_wp2_with (first | (go_at_call 63; refine N1.out.mono ?_; rintro e w1 ⟨v1, p1, e1, rfl, HS1, HV1, HX1⟩; refine Hid.out ?_))
  apply hidden
  clear N1 HC0 hu
  obtain ⟨a0, a1, a2, a3, a4⟩ := HS1.out.c3.cells
  obtain ⟨f0, f1, f2, f3, f4⟩ := HS1.out.c3.free
  have HT1 := hidden (HS1.out.store hrl 1 (.int .i64 v1) (HS1.out.c3.set (.int .i64 v1)).2.1)
  have T1 := hidden (HT1.out.text hrl)
  go_wp2_with (first | (go_at_call 47; refine T1.out.mono ?_; rintro e w2 ⟨ko, kn, kc, p2, e2, key, rfl, HS2, HK2L, HV2, HX2⟩; refine Hid.out ?_))
  apply hidden
  have HK2 := hidden HK2L.out.1
  have HLOC := hidden HK2L.out.2
  clear HK2L
  clear a0 a1 a2 a3 a4 f0 f1 f2 f3 f4 T1 HT1 HS1
  obtain ⟨a0, a1, a2, a3, a4⟩ := HS2.out.c3.cells
  obtain ⟨f0, f1, f2, f3, f4⟩ := HS2.out.c3.free
  have HT2 := hidden (HS2.out.store hrl 0 (.slice ko kn kc) (HS2.out.c3.set (.slice ko kn kc)).1)
  have HK2a : Hid (Sl (w2.setCell ⟨k + 1, 0, none⟩ (.slice ko kn kc)) ko kn kc key) := hidden (HK2.out.cf (Cf.set _ _ _ _) (HK2.out.apart5 HS2.out.c3))
  by_cases h1 : v1 = 1
  · subst h1
    have T2 := hidden (HT2.out.text hrl)
    go_wp2_with (first | (go_at_call 47; refine T2.out.mono ?_; rintro e w3 ⟨vo, vn, vc, p3, e3, val, rfl, HS3, HK3L, HV3, HX3⟩; refine Hid.out ?_))
    apply hidden
    have HK3 := hidden HK3L.out.1
    clear HK3L
    have HK3a : Hid (Sl w3 ko kn kc key) := hidden (HK2a.out.cf HX3.out (HK2a.out.apart HT2.out.rd))
    clear a0 a1 a2 a3 a4 f0 f1 f2 f3 f4 T2 HT2 HS2 HK2a
    obtain ⟨a0, a1, a2, a3, a4⟩ := HS3.out.c3.cells
    obtain ⟨f0, f1, f2, f3, f4⟩ := HS3.out.c3.free
    obtain ⟨b0, b1, b2, b3, b4⟩ := HS3.out.c2.cells
    obtain ⟨d0, d1, d2, d3, d4⟩ := HS3.out.c2.free
    have HT3 := hidden (HS3.out.store hrl 2 (.slice vo vn vc) (HS3.out.c3.set (.slice vo vn vc)).2.2.1)
    have HK3b : Hid (Sl (w3.setCell ⟨k + 1, 2, none⟩ (.slice vo vn vc)) ko kn kc key) := hidden (HK3a.out.cf (Cf.set _ _ _ _) (HK3a.out.apart5 HS3.out.c3))
    have HK3c : Hid (Sl (w3.setCell ⟨k + 1, 2, none⟩ (.slice vo vn vc)) vo vn vc val) := hidden (HK3.out.cf (Cf.set _ _ _ _) (HK3.out.apart5 HS3.out.c3))
    have HV := hidden (cellV HV1.out HV2.out HV3.out)
    clear HS3 HK3 HK3a HV1 HV2 HV3 HX1 HX2 HX3 HK2
    go_wp2
    refine bodyPost_ret (results_cell_row rfl _ _ k 30 #[.slice ko kn kc, .int .i64 1, .slice vo vn vc, .int .i64 0, .int .i64 0] (0, 0) _ (by rfl) (HT3.out.c2.put _ _ _ _ _) Tryd.underlying30 rfl sizeCell) rfl ?_
    exact HT3.out.fin hrl HK3b.out HK3c.out HLOC.out HV.out
  · have T2 := hidden (HT2.out.number4 hrl)
    go_wp2_with (first | (go_at_call 63; refine T2.out.mono ?_; rintro e w3 ⟨pg, p3, e3, rfl, HS3, HV3, HX3⟩; refine Hid.out ?_))
    apply hidden
    have HK3a : Hid (Sl w3 ko kn kc key) := hidden (HK2a.out.cf HX3.out (HK2a.out.apart HT2.out.rd))
    clear a0 a1 a2 a3 a4 f0 f1 f2 f3 f4 T2 HT2 HS2 HK2a
    obtain ⟨a0, a1, a2, a3, a4⟩ := HS3.out.c3.cells
    obtain ⟨f0, f1, f2, f3, f4⟩ := HS3.out.c3.free
    have HT3 := hidden (HS3.out.store hrl 3 (.int .i64 pg) (HS3.out.c3.set (.int .i64 pg)).2.2.2.1)
    have HK3b : Hid (Sl (w3.setCell ⟨k + 1, 3, none⟩ (.int .i64 pg)) ko kn kc key) := hidden (HK3a.out.cf (Cf.set _ _ _ _) (HK3a.out.apart5 HS3.out.c3))
    have T3 := hidden (HT3.out.number4 hrl)
    go_wp2_with (first | (go_at_call 63; refine T3.out.mono ?_; rintro e w4 ⟨ct, p4, e4, rfl, HS4, HV4, HX4⟩; refine Hid.out ?_))
    apply hidden
    have HK4a : Hid (Sl w4 ko kn kc key) := hidden (HK3b.out.cf HX4.out (HK3b.out.apart HT3.out.rd))
    clear a0 a1 a2 a3 a4 f0 f1 f2 f3 f4 T3 HT3 HS3 HK3a HK3b
    obtain ⟨a0, a1, a2, a3, a4⟩ := HS4.out.c3.cells
    obtain ⟨f0, f1, f2, f3, f4⟩ := HS4.out.c3.free
    obtain ⟨b0, b1, b2, b3, b4⟩ := HS4.out.c2.cells
    obtain ⟨d0, d1, d2, d3, d4⟩ := HS4.out.c2.free
    have HT4 := hidden (HS4.out.store hrl 4 (.int .i64 ct) (HS4.out.c3.set (.int .i64 ct)).2.2.2.2)
    have HK4b : Hid (Sl (w4.setCell ⟨k + 1, 4, none⟩ (.int .i64 ct)) ko kn kc key) := hidden (HK4a.out.cf (Cf.set _ _ _ _) (HK4a.out.apart5 HS4.out.c3))
    have HV := hidden (cellN h1 HV1.out HV2.out HV3.out HV4.out)
    clear HS4 HK4a HV1 HV2 HV3 HV4 HX1 HX2 HX3 HX4 HK2
    go_wp2
    refine bodyPost_ret (results_cell_row rfl _ _ k 30 #[.slice ko kn kc, .int .i64 v1, .slice none 0 0, .int .i64 pg, .int .i64 ct] (0, 0) _ (by rfl) (HT4.out.c2.put _ _ _ _ _) Tryd.underlying30 rfl sizeCell) rfl ?_
    exact HT4.out.fin hrl HK4b.out (Sl.nil_any _ _ _ fun _ => rfl) HLOC.out HV.out
end Go.Proofs.YtddjepdgigeelabDoor

/- plain: copies, what a cell takes, a cell's bytes behind others. -/

namespace Go.Proofs.YtddjepdgigeelabDoor
open Go.RowKit

/-- What was grown lies where it lay, or in a new block; nothing else has turned. -/
structure Gr (w : World) (v : Value) (w' : World) (v' : Value) : Prop where
  grow : w.grownBy w' v.ownBlock
  own : v'.ownBlock = v.ownBlock ∨ ∃ k, v'.ownBlock = some k ∧ w.heap.size ≤ k
set_option maxRecDepth 100000 in
theorem Gr.ofBelow {w w' : World} (v : Value) (h : Below w.heap.size w w') : Gr w v w' v := ⟨⟨h.os, h.tape, h.output, h.size, fun k hk _ => h.block k hk⟩, .inl rfl⟩
set_option maxRecDepth 100000 in
theorem Gr.refl (w : World) (v : Value) : Gr w v w v := Gr.ofBelow v (Below.refl _ _)
set_option maxRecDepth 100000 in
theorem Gr.alloc (w : World) (v : Value) (o : Obj) : Gr w v (w.alloc o) v := Gr.ofBelow v ((Below.refl _ _).alloc (Nat.le_refl _) o)
set_option maxRecDepth 100000 in
theorem Gr.trans {w w1 w2 : World} {v v1 v2 : Value} (a : Gr w v w1 v1) (b : Gr w1 v1 w2 v2) : Gr w v w2 v2 := by
  have hs := a.grow.size
  refine ⟨⟨b.grow.os.trans a.grow.os, b.grow.tape.trans a.grow.tape, b.grow.output.trans a.grow.output, Nat.le_trans hs b.grow.size, fun k hk hne => ?_⟩, ?_⟩
  · refine (b.grow.block k (Nat.lt_of_lt_of_le hk hs) ?_).trans (a.grow.block k hk hne)
    rcases a.own with h | ⟨k', h, hk'⟩
    · rw [h]; exact hne
    · rw [h]; intro e; cases e; omega
  · rcases b.own with h | ⟨k', h, hk'⟩
    · rcases a.own with h' | ⟨k'', h', hk''⟩
      · exact .inl (h.trans h')
      · exact .inr ⟨k'', h.trans h', hk''⟩
    · exact .inr ⟨k', h, by omega⟩
set_option maxRecDepth 100000 in
theorem Gr.below {w w' : World} {v v' : Value} {B : Nat} {l : List Int} (h : Gr w v w' v') (hown : OwnB w B v l) (hB : B ≤ w.heap.size) : Below B w w' := own_below hown hB h.grow
/-- A slice that does not lie in what an owned value has. -/
def Far (ao : Option Addr) (n : Nat) (v : Value) : Prop := n = 0 ∨ ∀ p, ao = some p → v.ownBlock ≠ some p.block
set_option maxRecDepth 100000 in
theorem Sl.gr {w w' : World} {v v' : Value} {ao : Option Addr} {n cap : Nat} {l : List Int} (h : Sl w ao n cap l) (hg : Gr w v w' v') (hf : Far ao n v) : Sl w' ao n cap l := by
  refine ⟨h.hlen, h.hcap, h.hroom, h.wf, h.hnil, ?_⟩
  rcases h.hat with h0 | ⟨b, off, e, hlt, hc⟩
  · exact .inl h0
  · rcases hf with h0 | hf
    · exact .inl h0
    · refine .inr ⟨b, off, e, Nat.lt_of_lt_of_le hlt hg.grow.size, fun i hi => ?_⟩
      rw [← hc i hi]
      exact World.cell?_of_block (hg.grow.block b hlt (fun e2 => hf _ e e2.symm))
set_option maxRecDepth 100000 in
theorem Far.gr {w w' : World} {v v' : Value} {ao : Option Addr} {n cap : Nat} {l : List Int} (hf : Far ao n v) (h : Sl w ao n cap l) (hg : Gr w v w' v') : Far ao n v' := by
  rcases hf with h0 | hf
  · exact .inl h0
  · rcases h.hat with h0 | ⟨b, off, rfl, hlt, hc⟩
    · exact .inl h0
    · right
      intro p hp
      injection hp with hp
      subst hp
      rcases hg.own with e | ⟨k, e, hk⟩
      · rw [e]; exact hf _ rfl
      · rw [e]; intro h; injection h with h; simp only at h; omega
set_option maxRecDepth 100000 in
theorem OwnB.low {w : World} {B C : Nat} {v : Value} {l : List Int} (h : OwnB w C v l) (hB : B ≤ C) : OwnB w B v l := by
  unfold OwnB at *
  rcases h.2 with h2 | ⟨g, cap, cur, e, hg, rest⟩
  · exact ⟨h.1, .inl h2⟩
  · exact ⟨h.1, .inr ⟨g, cap, cur, e, Nat.le_trans hB hg, rest⟩⟩
set_option maxRecDepth 100000 in
theorem OwnB.far {w : World} {B : Nat} {v : Value} {l : List Int} (h : OwnB w B v l) {ao : Option Addr} {n : Nat} (hb : ∀ p, ao = some p → p.block < B) : Far ao n v := by
  right
  intro p hp e
  have := hb p hp
  unfold OwnB at h
  have h2 := (h.lt p.block e).1
  omega

set_option maxRecDepth 100000 in
/-- 'append(out, x...)', out the call's own or nil, x any bytes. -/
theorem app_sl {ops : Array Oper} {rest : List Oper} {o : Oper} {a : Act} {Q : Exit → Act → World → Prop} (w : World) (hgd : o.guard = none) (s x : Operand)
    (ho : o.op = .call { callee := .builtin .append, args := #[s, x], argTypes := #[25, 25] }) (B : Nat) (l news : List Int) (v : Value) (ao : Option Addr) (n c : Nat) (hs : a.eval s = v) (hx : a.eval x = .slice ao n c)
    (hown : OwnB w B v l) (hsl : Sl w ao n c news) (hb : l.length + n ≤ 140737488355328) (hbase : B ≤ w.heap.size)
    (h : ∀ v' w', OwnB w' B v' (l ++ news) → Gr w v w' v' → wpList Tryd.prog ops Q rest (a.put o.dst v') w') : wpList Tryd.prog ops Q (o :: rest) a w := by
  obtain ⟨i0, hi, hz0, hz1, hz2⟩ := info_parts info5
  have hlen := hsl.hlen
  cases ao with
  | none =>
    have : n = 0 := by have := hsl.hnil rfl; have := hsl.hcap; omega
    subst this
    have hc0 := hsl.hnil rfl
    subst hc0
    obtain rfl : news = [] := List.eq_nil_of_length_eq_zero hlen
    exact wpList_append_own_none hgd s x 25 ho B 5 i0 1 Tryd.underlying25 hi v l.length (By l) hs hown hx (h v w (by simpa using hown) (Gr.refl _ _))
  | some ad =>
    refine wpList_append_own_at w hgd s x 25 ho B 5 i0 (.int .u8 0) 1 1 Tryd.underlying25 hi hz0 hz1 hz2 rfl (by decide) v l.length (By l) hs hown ad n c (By news) hx (by simp [By, hlen])
      (fun j u hu => by
        obtain ⟨h1, h2⟩ := getElem?_By news j u hu
        rw [h2]
        rcases hsl.hat with h0 | ⟨b, off, e, _, hc⟩
        · omega
        · injection e with e
          subst e
          rw [Addr.add_lit]
          exact hc j (by omega)) (By_one news) (by unfold maxLen; omega) (by omega) hbase ?_
    intro v' w' h1 h2 _ h4
    refine h v' w' ?_ ⟨h2, h4.imp id fun e => ⟨_, e, Nat.le_refl _⟩⟩
    unfold OwnB
    rw [By_append, List.length_append, hlen]
    exact h1

set_option maxRecDepth 100000 in
set_option maxHeartbeats 400000 in
/-- Bytes copied into memory of their own. -/
theorem copiedBytes_any (ao : Option Addr) (n cap : Nat) (l : List Int) (w : World) (hs : Sl w ao n cap l) :
    Calls Tryd.prog 42 #[.slice ao n cap] w fun e w' => e = .returned (.slice (some ⟨w.heap.size, 0, none⟩) n n) ∧ Hid (Bk w' w.heap.size l) ∧ Hid (Below w.heap.size w w') := by
  obtain ⟨i0, hi, hz0, hz1, hz2⟩ := info_parts info5
  obtain ⟨hlen, hcap, hroom, hwf, hnil, hat⟩ := hs
  have hsz : (Tryd.prog.info? 5).map (·.size) = some 1 := by rw [hi]; simp [hz1]
  go_enter Tryd.func42, Tryd.ntmps42
  go_wp2_with (at_make; refine wpList_make_full _ rfl _ _ 25 rfl w.heap.size 5 i0 (.int .u8 0) 1 Tryd.underlying25 hi hz0 hz1 .i64 .i64 n n n rfl rfl rfl rfl (by rw [hz2]; omega) (by unfold maxLen; omega) (Nat.le_refl _) ?_)
  intro w1 hown1 hg1
  have hb1 : Below w.heap.size w w1 := (Below.refl _ _).grown hg1 (Nat.le_refl _) (fun k hk => by cases hk)
  clear hg1
  obtain ⟨cur, hcur, hcs⟩ : ∃ cur : List Value, w1.heap[w.heap.size]? = some (.cells cur.toArray 5 (0, 0)) ∧ cur.length = n := by
    rcases hown1.2 with ⟨h, _⟩ | ⟨g, c, cur, h, _, hh, _, _, hs, _⟩
    · cases h
    · cases h
      exact ⟨cur.toList, by simpa using hh, by simpa using hs⟩
  clear hown1
  have HC := hidden hcur
  clear hcur
  have hpos : 0 < (By l).length → some (⟨w.heap.size, 0, none⟩ : Addr) = some ⟨w.heap.size, 0, none⟩ ∧ ∃ ad, ao = some ad ∧ ∀ j v, (By l)[j]? = some v → w1.cell? (ad.add j) = some v := by
    intro h
    rw [By_length] at h
    rcases hat with h0 | ⟨b, off, rfl, hbb, hc⟩
    · omega
    · refine ⟨rfl, _, rfl, fun j v hv => ?_⟩
      obtain ⟨h1, rfl⟩ := getElem?_By l j v hv
      rw [Addr.add_lit]
      exact (hb1.cell (p := ⟨b, off + j, none⟩) hbb).trans (hc j (by omega))
  have HP := hidden hpos
  clear hpos
  go_wp2_with (refine wpList_copy_splice rfl _ _ 25 25 rfl 5 Tryd.underlying25 hsz _ _ n n n cap rfl rfl w.heap.size 0 cur 5 HC.out (By l) (by rw [By_length, hlen]; exact (Nat.min_self n).symm) HP.out (by rw [By_length]; omega) (By_one l) w.heap.size w hb1 (Nat.le_refl _) ?_)
  intro w2 hh hb2
  have ho : Hid (Bk w2 w.heap.size l) := by
    have h' := hh.out
    rw [show splice cur 0 (By l) = By l from by simp [splice, By_length, hlen, hcs]] at h'
    exact hidden h'
  have HB2 := hidden hb2
  clear hh hb2
  go_wp2
  go_ret
  exact ⟨rfl, ho, HB2⟩

set_option maxRecDepth 100000 in
/-- What a cell takes, by its numbers. -/
theorem ptaken_any (ka : Option Addr) (kn kc : Nat) (kd : Int) (va : Option Addr) (vn vc : Nat) (pg ct : Int) (w : World) (hk : kn ≤ 140737488355328) (hv : vn ≤ 140737488355328) :
    Calls Tryd.prog 18 #[.agg #[.slice ka kn kc, .int .i64 kd, .slice va vn vc, .int .i64 pg, .int .i64 ct]] w fun e w' => e = .returned (.int .i64 (if kd = 1 then 7 + (kn : Int) + (vn : Int) else 13 + (kn : Int))) ∧ Below w.heap.size w w' := by
  by_cases h : kd = 1
  · subst h
    rw [if_pos rfl]
    go_enter Tryd.func18, Tryd.ntmps18
    go_wp2
    go_ret
    exact ⟨ret_int (by omega), (Below.refl _ _).alloc (Nat.le_refl _) _⟩
  · rw [if_neg h]
    go_enter Tryd.func18, Tryd.ntmps18
    go_wp2
    go_ret
    exact ⟨ret_int (by omega), (Below.refl _ _).alloc (Nat.le_refl _) _⟩

set_option maxRecDepth 100000 in
set_option maxHeartbeats 400000 in
theorem appendedText_any (v : Value) (B : Nat) (l : List Int) (ao : Option Addr) (n c : Nat) (t : List Int) (w : World) (hown : OwnB w B v l) (hB : B ≤ w.heap.size) (hs : Sl w ao n c t) (hf : Far ao n v) (hl : l.length + n ≤ 70368744177664) :
    Calls Tryd.prog 50 #[v, .slice ao n c] w fun e w' => ∃ v', e = .returned v' ∧ Hid (OwnB w' B v' (l ++ (fB 2 (n : Int) ++ t))) ∧ Hid (Gr w v w' v') := by
  have hlen := hs.hlen
  have hw : IntKind.u64.wrap (n : Int) = (n : Int) := by rw [IntKind.wrap_u64]; omega
  have HF := hidden (fixed_yes (n : Int) 2 w (by omega) (by omega) (by omega))
  have HS := hidden hs
  have HO := hidden hown
  have HFAR := hidden hf
  clear hs hown hf
  go_enter Tryd.func50, Tryd.ntmps50
  go_wp2_with (first | (go_at_call 38; refine HF.out.mono ?_; rintro e w1 ⟨v1, rfl, ho1, hb1⟩; refine Hid.out ?_))
  apply hidden
  rw [show (2 : Int).toNat = 2 from rfl] at ho1
  obtain ⟨a1, c1, rfl, s1, _⟩ := ho1.sl (fB_wf _ _) (by rw [fB_length]; omega)
  rw [fB_length] at s1
  rw [fB_length]
  have HS1 := hidden s1
  have HO1 : Hid (OwnB w1 B v l) := hidden (HO.out.on (Nat.le_refl _) hb1)
  have G1 := hidden (Gr.ofBelow v hb1)
  have hB1 : B ≤ w1.heap.size := Nat.le_trans hB hb1.size
  have HSa : Hid (Sl w1 ao n c t) := hidden (HS.out.on (Nat.le_refl _) hb1)
  have HL : Hid ((fB 2 (n : Int)).length = 2) := hidden (fB_length _ _)
  obtain ⟨F, hF⟩ : ∃ F, fB 2 (n : Int) = F := ⟨_, rfl⟩
  have HFE := hidden hF
  rw [hF] at HL HS1
  clear hF
  clear s1 ho1 hb1 HF
  go_wp2_with (at_builtin; refine app_sl _ rfl _ _ rfl B l F v a1 2 c1 rfl rfl HO1.out HS1.out (by omega) hB1 ?_; refine Hid.out ?_)
  apply hidden
  intro v2 w2 ho2 g2
  have hB2 : B ≤ w2.heap.size := Nat.le_trans hB1 g2.grow.size
  have HSb : Hid (Sl w2 ao n c t) := hidden (HSa.out.gr g2 HFAR.out)
  have G2 := hidden (G1.out.trans g2)
  have HO2 := hidden ho2
  clear ho2 g2 HO1 HS1
  have hll : (l ++ F).length + n ≤ 140737488355328 := by rw [List.length_append, HL.out]; omega
  go_wp2_with (at_builtin; refine app_sl _ rfl _ _ rfl B (l ++ F) t v2 ao n c rfl rfl HO2.out HSb.out hll hB2 ?_; refine Hid.out ?_)
  apply hidden
  intro v3 w3 ho3 g3
  have HO3 := hidden ho3
  have G3 := hidden (G2.out.trans g3)
  clear ho3 g3
  go_wp2
  go_ret
  exact ⟨v3, rfl, hidden (by rw [HFE.out]; first | exact HO3.out | (rw [← List.append_assoc]; exact HO3.out)), G3⟩
set_option maxRecDepth 100000 in
theorem sl_one (w : World) (x : Int) (hx : 0 ≤ x ∧ x ≤ 255) : Sl (w.alloc (.cells #[.int .u8 x] 5)) (some ⟨w.heap.size, 0, none⟩) 1 1 [x] := by
  refine ⟨rfl, Nat.le_refl _, by omega, Wf.cons hx Wf.nil, (by intro h; cases h), .inr ⟨w.heap.size, 0, rfl, by simp, ?_⟩⟩
  intro i hi
  obtain rfl : i = 0 := by omega
  simp
set_option maxRecDepth 100000 in
theorem C5.box (w : World) (x0 x1 x2 x3 x4 : Value) : C5 (w.alloc (.cells #[x0, x1, x2, x3, x4] 30)) w.heap.size x0 x1 x2 x3 x4 := heap_alloc_last w _
set_option maxRecDepth 100000 in
theorem C5.gr {w w' : World} {v v' : Value} {g : Nat} {x0 x1 x2 x3 x4 : Value} (h : C5 w g x0 x1 x2 x3 x4) (hg : Gr w v w' v') (hv : v.ownBlock ≠ some g) : C5 w' g x0 x1 x2 x3 x4 := (hg.grow.block g (lt_some h) (fun e => hv e.symm)).trans h
set_option maxRecDepth 100000 in
/-- Bytes of one's own don't lie in a cell's block. -/
theorem OwnB.apart5 {w : World} {B : Nat} {v : Value} {l : List Int} (h : OwnB w B v l) {g : Nat} {x0 x1 x2 x3 x4 : Value} (hc : C5 w g x0 x1 x2 x3 x4) : v.ownBlock ≠ some g := by
  intro e
  unfold OwnB at h
  rcases h.2 with ⟨rfl, _⟩ | ⟨q, cap, cur, rfl, _, hh, _⟩
  · cases e
  · simp only [Value.ownBlock, Option.some.injEq] at e
    subst e
    unfold C5 at hc
    rw [hc] at hh
    simp at hh

set_option maxRecDepth 100000 in
set_option maxHeartbeats 1000000 in
theorem appended_any (v : Value) (B : Nat) (l : List Int) (ka : Option Addr) (kn kc : Nat) (kd : Int) (va : Option Addr) (vn vc : Nat) (pg ct : Int) (key val : List Int) (w : World) (hown : OwnB w B v l) (hB : B ≤ w.heap.size)
    (hk : Sl w ka kn kc key) (hv : Sl w va vn vc val) (fk : Far ka kn v) (fv : Far va vn v) (hp : 0 ≤ pg ∧ pg < 4294967296) (hc : 0 ≤ ct ∧ ct < 4294967296) (hl : l.length + kn + vn ≤ 35184372088832) :
    Calls Tryd.prog 34 #[v, .agg #[.slice ka kn kc, .int .i64 kd, .slice va vn vc, .int .i64 pg, .int .i64 ct]] w fun e w' => ∃ v', e = .returned v' ∧ Hid (OwnB w' B v' (l ++ cB ⟨key, kd, val, pg, ct⟩)) ∧ Hid (Gr w v w' v') := by
  have HKL := hidden hk.hlen
  have HVL := hidden hv.hlen
  have hp0 := hp.1
  have hp1 := hp.2
  have hc0 := hc.1
  have hc1 := hc.2
  have hwp : IntKind.u64.wrap pg = pg := by rw [IntKind.wrap_u64]; omega
  have hwc : IntKind.u64.wrap ct = ct := by rw [IntKind.wrap_u64]; omega
  obtain ⟨s, hs⟩ : ∃ s, w.heap.size = s := ⟨_, rfl⟩
  obtain ⟨x, hx⟩ : ∃ x, (w.alloc (.cells #[.slice ka kn kc, .int .i64 kd, .slice va vn vc, .int .i64 pg, .int .i64 ct] 30)).alloc (.cells #[.int .u8 (kd % 256)] 5) = x := ⟨_, rfl⟩
  have hbx : Below w.heap.size w x := by rw [← hx]; exact bl_al (bl_al (Below.refl _ _) (Nat.le_refl _) _) (Nat.le_refl _) _
  have HBX : Hid (C5 x s (.slice ka kn kc) (.int .i64 kd) (.slice va vn vc) (.int .i64 pg) (.int .i64 ct)) := by
    rw [← hx, ← hs]
    exact hidden ((Below.heap_alloc _ _ _ (by simp)).trans (heap_alloc_last w _))
  have H1 : Hid (Sl x (some ⟨s + 1, 0, none⟩) 1 1 [kd % 256]) := by
    have := sl_one (w.alloc (.cells #[.slice ka kn kc, .int .i64 kd, .slice va vn vc, .int .i64 pg, .int .i64 ct] 30)) (kd % 256) (by omega)
    rw [hx] at this
    rw [← hs]
    exact hidden (by simpa using this)
  have HO : Hid (OwnB x B v l) := hidden (hown.on (Nat.le_refl _) hbx)
  have HK : Hid (Sl x ka kn kc key) := hidden (hk.on (Nat.le_refl _) hbx)
  have HV : Hid (Sl x va vn vc val) := hidden (hv.on (Nat.le_refl _) hbx)
  have HFK := hidden fk
  have HFV := hidden fv
  have HG : Hid (Gr w v x v) := hidden (Gr.ofBelow v hbx)
  have hBx : B ≤ x.heap.size := Nat.le_trans hB hbx.size
  clear hown hk hv fk fv hbx
  go_enter Tryd.func34, Tryd.ntmps34
  go_wp2_with (at_builtin; refine app_sl _ rfl _ _ rfl B l [kd % 256] v (some ⟨s + 1, 0, none⟩) 1 1 rfl rfl HO.out H1.out (by omega) hBx ?_; refine Hid.out ?_)
  apply hidden
  intro v1 w1 ho1 g1
  have HO1 := hidden ho1
  have HBX1 : Hid (C5 w1 s (.slice ka kn kc) (.int .i64 kd) (.slice va vn vc) (.int .i64 pg) (.int .i64 ct)) := hidden (HBX.out.gr g1 (HO.out.apart5 HBX.out))
  have HK1 : Hid (Sl w1 ka kn kc key) := hidden (HK.out.gr g1 HFK.out)
  have HV1 : Hid (Sl w1 va vn vc val) := hidden (HV.out.gr g1 HFV.out)
  have HFK1 : Hid (Far ka kn v1) := hidden (HFK.out.gr HK.out g1)
  have HFV1 : Hid (Far va vn v1) := hidden (HFV.out.gr HV.out g1)
  have HG1 : Hid (Gr w v w1 v1) := hidden (HG.out.trans g1)
  have hB1 : B ≤ w1.heap.size := Nat.le_trans hBx g1.grow.size
  clear ho1 g1 HO HBX HK HV HFK HFV HG H1 hx
  obtain ⟨c0, c1, c2, c3, c4⟩ := HBX1.out.cells
  have T1 := hidden (appendedText_any v1 B (l ++ [kd % 256]) ka kn kc key w1 HO1.out hB1 HK1.out HFK1.out (by rw [List.length_append]; simp; omega))
  go_wp2_with (first | (go_at_call 50; refine T1.out.mono ?_; rintro e w2 ⟨v2, rfl, HO2, HG2⟩; refine Hid.out ?_))
  apply hidden
  have HBX2 : Hid (C5 w2 s (.slice ka kn kc) (.int .i64 kd) (.slice va vn vc) (.int .i64 pg) (.int .i64 ct)) := hidden (HBX1.out.gr HG2.out (HO1.out.apart5 HBX1.out))
  have HV2 : Hid (Sl w2 va vn vc val) := hidden (HV1.out.gr HG2.out HFV1.out)
  have HFV2 : Hid (Far va vn v2) := hidden (HFV1.out.gr HV1.out HG2.out)
  have hB2 : B ≤ w2.heap.size := Nat.le_trans hB1 HG2.out.grow.size
  have HGG : Hid (Gr w v w2 v2) := hidden (HG1.out.trans HG2.out)
  clear c0 c1 c2 c3 c4 T1 HBX1 HK1 HV1 HFK1 HFV1 HG1 HO1 HG2
  obtain ⟨c0, c1, c2, c3, c4⟩ := HBX2.out.cells
  by_cases h1 : kd = 1
  · subst h1
    have T2 := hidden (appendedText_any v2 B _ va vn vc val w2 HO2.out hB2 HV2.out HFV2.out (by simp only [List.length_append, fB_length, HKL.out]; simp; omega))
    go_wp2_with (first | (go_at_call 50; refine T2.out.mono ?_; rintro e w3 ⟨v3, rfl, HO3, HG3⟩))
    go_ret
    refine ⟨v3, rfl, hidden ?_, hidden (HGG.out.trans HG3.out)⟩
    have h := HO3.out
    simp only [List.append_assoc] at h
    rw [cB, HKL.out, HVL.out]
    simpa using h
  · obtain ⟨L2, hL2⟩ : ∃ L2, l ++ [kd % 256] ++ (fB 2 (kn : Int) ++ key) = L2 := ⟨_, rfl⟩
    rw [hL2] at HO2
    have HL2 := hidden hL2
    have HLL : Hid (L2.length = l.length + 3 + kn) := by
      rw [← hL2]
      refine hidden ?_
      simp only [List.length_append, fB_length, HKL.out, List.length_cons, List.length_nil]
      omega
    clear hL2
    have F1 := hidden (fixed_yes pg 4 w2 (by omega) (by omega) (by omega))
    go_wp2_with (first | (go_at_call 38; refine F1.out.mono ?_; rintro e w3 ⟨p1, rfl, ho3, hb3⟩; refine Hid.out ?_))
    apply hidden
    rw [show (4 : Int).toNat = 4 from rfl] at ho3
    obtain ⟨a1, y1, rfl, s1, _⟩ := ho3.sl (fB_wf _ _) (by rw [fB_length]; omega)
    rw [fB_length] at s1
    rw [fB_length]
    have HS3 := hidden s1
    have HO3 : Hid (OwnB w3 B v2 L2) := hidden (HO2.out.on (Nat.le_refl _) hb3)
    have HG3 := hidden (HGG.out.trans (Gr.ofBelow v2 hb3))
    have HBX3 : Hid (C5 w3 s (.slice ka kn kc) (.int .i64 kd) (.slice va vn vc) (.int .i64 pg) (.int .i64 ct)) := hidden (box_on HBX2.out hb3)
    have hB3 : B ≤ w3.heap.size := Nat.le_trans hB2 hb3.size
    clear s1 ho3 hb3 F1 c0 c1 c2 c3 c4 HBX2 HO2 HGG HV2 HFV2
    have hl3 : L2.length + 4 ≤ 140737488355328 := by rw [HLL.out]; omega
    go_wp2_with (at_builtin; refine app_sl _ rfl _ _ rfl B L2 (fB 4 pg) v2 a1 4 y1 rfl rfl HO3.out HS3.out hl3 hB3 ?_; refine Hid.out ?_)
    apply hidden
    intro v4 w4 ho4 g4
    have HO4 := hidden ho4
    have HG4 := hidden (HG3.out.trans g4)
    have HBX4 : Hid (C5 w4 s (.slice ka kn kc) (.int .i64 kd) (.slice va vn vc) (.int .i64 pg) (.int .i64 ct)) := hidden (HBX3.out.gr g4 (HO3.out.apart5 HBX3.out))
    have hB4 : B ≤ w4.heap.size := Nat.le_trans hB3 g4.grow.size
    clear ho4 g4 HO3 HBX3 HG3 HS3
    obtain ⟨c0, c1, c2, c3, c4⟩ := HBX4.out.cells
    have F2 := hidden (fixed_yes ct 4 w4 (by omega) (by omega) (by omega))
    go_wp2_with (first | (go_at_call 38; refine F2.out.mono ?_; rintro e w5 ⟨p2, rfl, ho5, hb5⟩; refine Hid.out ?_))
    apply hidden
    rw [show (4 : Int).toNat = 4 from rfl] at ho5
    obtain ⟨a2, y2, rfl, s2, _⟩ := ho5.sl (fB_wf _ _) (by rw [fB_length]; omega)
    rw [fB_length] at s2
    rw [fB_length]
    have HS5 := hidden s2
    have HO5 : Hid (OwnB w5 B v4 (L2 ++ fB 4 pg)) := hidden (HO4.out.on (Nat.le_refl _) hb5)
    have HG5 := hidden (HG4.out.trans (Gr.ofBelow v4 hb5))
    have hB5 : B ≤ w5.heap.size := Nat.le_trans hB4 hb5.size
    have hl5 : (L2 ++ fB 4 pg).length + 4 ≤ 140737488355328 := by rw [List.length_append, HLL.out, fB_length]; omega
    clear s2 ho5 hb5 F2 c0 c1 c2 c3 c4 HBX4 HO4 HG4 hl3
    go_wp2_with (at_builtin; refine app_sl _ rfl _ _ rfl B (L2 ++ fB 4 pg) (fB 4 ct) v4 a2 4 y2 rfl rfl HO5.out HS5.out hl5 hB5 ?_; refine Hid.out ?_)
    apply hidden
    intro v6 w6 ho6 g6
    have HO6 := hidden ho6
    have HG6 := hidden (HG5.out.trans g6)
    clear ho6 g6 HO5 HG5 HS5
    go_wp2
    go_ret
    refine ⟨v6, rfl, hidden ?_, HG6⟩
    have h := HO6.out
    rw [← HL2.out] at h
    simp only [List.append_assoc] at h
    rw [cB, HKL.out]
    simpa [h1] using h
end Go.Proofs.YtddjepdgigeelabDoor
