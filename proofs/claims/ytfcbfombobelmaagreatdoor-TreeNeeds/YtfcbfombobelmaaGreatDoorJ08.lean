/- plain.reader: number, text and cell: what they read of bytes. -/
import Derived.Test.YtfcbfombobelmaaGreatDoorJ07
namespace Go.Proofs.YtfcbfombobelmaaGreatDoor
open Go.RowKit

/-- Behind w' all blocks that w had are as they were, but those of F. -/
structure Cf (F : Nat → Prop) (w w' : World) : Prop where
  os : w'.os = w.os
  tape : w'.tape = w.tape
  output : w'.output = w.output
  size : w.heap.size ≤ w'.heap.size
  block : ∀ k, k < w.heap.size → ¬ F k → w'.heap[k]? = w.heap[k]?
set_option maxRecDepth 100000 in
theorem Cf.refl (F : Nat → Prop) (w : World) : Cf F w w := ⟨rfl, rfl, rfl, Nat.le_refl _, fun _ _ _ => rfl⟩
set_option maxRecDepth 100000 in
theorem Cf.trans {F G : Nat → Prop} {a b c : World} (h : Cf F a b) (k : Cf G b c) (hG : ∀ i, i < a.heap.size → G i → F i) : Cf F a c :=
  ⟨k.os.trans h.os, k.tape.trans h.tape, k.output.trans h.output, Nat.le_trans h.size k.size, fun i hi hf => (k.block i (Nat.lt_of_lt_of_le hi h.size) fun g => hf (hG i hi g)).trans (h.block i hi hf)⟩
set_option maxRecDepth 100000 in
theorem Cf.go {F : Nat → Prop} {a b c : World} (h : Cf F a b) (k : Cf F b c) : Cf F a c := h.trans k fun _ _ g => g
set_option maxRecDepth 100000 in
theorem Cf.of_below {F : Nat → Prop} {a b : World} (h : Below a.heap.size a b) : Cf F a b := ⟨h.os, h.tape, h.output, h.size, fun k hk _ => h.block k hk⟩
set_option maxRecDepth 100000 in
theorem Cf.below {F : Nat → Prop} {a b : World} {B : Nat} (h : Cf F a b) (hB : B ≤ a.heap.size) (hF : ∀ k, k < B → ¬ F k) : Below B a b := ⟨h.os, h.tape, h.output, h.size, fun k hk => h.block k (by omega) (hF k hk)⟩
set_option maxRecDepth 100000 in
theorem Cf.alloc (F : Nat → Prop) (w : World) (o : Obj) : Cf F w (w.alloc o) := ⟨rfl, rfl, rfl, by simp, fun k hk _ => Below.heap_alloc _ _ _ hk⟩
set_option maxRecDepth 100000 in
theorem Cf.setCell {F : Nat → Prop} (w : World) {p : Addr} (hp : F p.block) (u : Value) : Cf F w (w.setCell p u) :=
  ⟨rfl, rfl, rfl, by simp [World.setCell], fun k _ hk => Below.heap_setCell _ _ _ _ fun e => hk (e ▸ hp)⟩
set_option maxRecDepth 100000 in
theorem Cf.set (w : World) (r k : Nat) (u : Value) : Cf (· = r) w (w.setCell ⟨r, k, none⟩ u) := Cf.setCell (F := (· = r)) w (p := ⟨r, k, none⟩) rfl u
set_option maxRecDepth 100000 in
theorem Cf.drew (F : Nat → Prop) (w : World) (n : Nat) : Cf F w (w.drewN n) := ⟨rfl, rfl, rfl, Nat.le_refl _, fun _ _ _ => rfl⟩
/-- A reader. -/
def Rd (w : World) (r : Nat) (ao : Option Addr) (n cap at_ : Nat) (en : Bool) : Prop := w.heap[r]? = some (.cells #[.slice ao n cap, .int .i64 (at_ : Int), .bool en] 187 (0, 0))
set_option maxRecDepth 100000 in
theorem Rd.c0 {w : World} {r : Nat} {ao : Option Addr} {n cap at_ : Nat} {en : Bool} (h : Rd w r ao n cap at_ en) : w.cell? ⟨r, 0, none⟩ = some (.slice ao n cap) := by rw [cell_of_row _ _ 0 _ _ _ h]; rfl
set_option maxRecDepth 100000 in
theorem Rd.c1 {w : World} {r : Nat} {ao : Option Addr} {n cap at_ : Nat} {en : Bool} (h : Rd w r ao n cap at_ en) : w.cell? ⟨r, 1, none⟩ = some (.int .i64 (at_ : Int)) := by rw [cell_of_row _ _ 1 _ _ _ h]; rfl
set_option maxRecDepth 100000 in
theorem Rd.c2 {w : World} {r : Nat} {ao : Option Addr} {n cap at_ : Nat} {en : Bool} (h : Rd w r ao n cap at_ en) : w.cell? ⟨r, 2, none⟩ = some (.bool en) := by rw [cell_of_row _ _ 2 _ _ _ h]; rfl
set_option maxRecDepth 100000 in
theorem Rd.free {w : World} {r : Nat} {ao : Option Addr} {n cap at_ : Nat} {en : Bool} (h : Rd w r ao n cap at_ en) (k : Nat) : w.frozen? ⟨r, k, none⟩ = false := by
  unfold Rd at h
  simp [World.frozen?, h]
set_option maxRecDepth 100000 in
theorem Rd.drewN {w : World} {r : Nat} {ao : Option Addr} {n cap at_ : Nat} {en : Bool} (h : Rd w r ao n cap at_ en) (q : Nat) : Rd (w.drewN q) r ao n cap at_ en := h
set_option maxRecDepth 100000 in
theorem Rd.lt {w : World} {r : Nat} {ao : Option Addr} {n cap at_ : Nat} {en : Bool} (h : Rd w r ao n cap at_ en) : r < w.heap.size := lt_some h
set_option maxRecDepth 100000 in
theorem Rd.set1 {w : World} {r : Nat} {ao : Option Addr} {n cap at_ : Nat} {en : Bool} (h : Rd w r ao n cap at_ en) (x : Nat) : Rd (w.setCell ⟨r, 1, none⟩ (.int .i64 (x : Int))) r ao n cap x en := by
  unfold Rd at *
  have := set_row (w := w) (a := r) (cs := [.slice ao n cap, .int .i64 (at_ : Int), .bool en]) (i := 1) (u := .int .i64 (x : Int)) h
  simpa using this
set_option maxRecDepth 100000 in
theorem Rd.set2 {w : World} {r : Nat} {ao : Option Addr} {n cap at_ : Nat} {en : Bool} (h : Rd w r ao n cap at_ en) (x : Bool) : Rd (w.setCell ⟨r, 2, none⟩ (.bool x)) r ao n cap at_ x := by
  unfold Rd at *
  have := set_row (w := w) (a := r) (cs := [.slice ao n cap, .int .i64 (at_ : Int), .bool en]) (i := 2) (u := .bool x) h
  simpa using this
set_option maxRecDepth 100000 in
/-- The bytes don't lie in the reader. -/
theorem Sl.apart {w : World} {ao : Option Addr} {n cap : Nat} {l : List Int} (h : Sl w ao n cap l) {r : Nat} {a : Option Addr} {b c d : Nat} {en : Bool} (hr : Rd w r a b c d en) : n = 0 ∨ ∀ p, ao = some p → p.block ≠ r := by
  rcases h.hat with h0 | ⟨g, off, rfl, hg, hc⟩
  · exact .inl h0
  · rcases Nat.eq_zero_or_pos n with h0 | h0
    · exact .inl h0
    · right
      rintro p hp rfl
      injection hp with hp
      subst hp
      have h1 := hc 0 h0
      rw [cell_of_row _ _ _ _ _ _ hr] at h1
      rcases Nat.lt_or_ge (off + 0) 3 with h3 | h3
      · have h4 : off + 0 = 0 ∨ off + 0 = 1 ∨ off + 0 = 2 := by omega
        rcases h4 with h4 | h4 | h4 <;> (rw [h4] at h1; simp at h1)
      · rw [Array.getElem?_eq_none (by simpa using h3)] at h1
        cases h1
set_option maxRecDepth 100000 in
theorem Sl.cf {w w' : World} {ao : Option Addr} {n cap : Nat} {l : List Int} {F : Nat → Prop} (h : Sl w ao n cap l) (hc : Cf F w w') (hf : n = 0 ∨ ∀ p, ao = some p → ¬ F p.block) : Sl w' ao n cap l := by
  refine ⟨h.hlen, h.hcap, h.hroom, h.wf, h.hnil, ?_⟩
  rcases h.hat with h0 | ⟨b, off, e, hlt, hcl⟩
  · exact .inl h0
  · rcases hf with h0 | hf
    · exact .inl h0
    · refine .inr ⟨b, off, e, Nat.lt_of_lt_of_le hlt hc.size, fun i hi => ?_⟩
      have := hc.block b hlt (hf _ e)
      rw [← hcl i hi]
      simp only [World.cell?, this]
/-- What number comes to. -/
def NumTo (x : Nat) (l : List Int) (w : World) (r : Nat) (ao : Option Addr) (n cap at_ : Nat) (en : Bool) (e : Ending) (w' : World) : Prop :=
  ∃ (v : Int) (p : Nat) (en' : Bool), e = .returned (.int .i64 v) ∧ Hid (Rd w' r ao n cap p en') ∧ Hid (Cf (· = r) w w') ∧ Hid ((0 ≤ v ∧ v < 256 ^ x) ∧ p ≤ n ∧ ((pNum x (l.drop at_) = some (v, l.drop p) ∧ en' = en) ∨ (pNum x (l.drop at_) = none ∧ en' = true ∧ v = 0 ∧ p = at_)))
set_option maxRecDepth 100000 in
set_option maxHeartbeats 1000000 in
theorem number_any (x : Nat) (l : List Int) (w : World) (r : Nat) (ao : Option Addr) (n cap at_ : Nat) (en : Bool) (hx : x = 1 ∨ x = 2 ∨ x = 4) (hr : Rd w r ao n cap at_ en) (hs : Sl w ao n cap l) (ha : at_ ≤ n) :
    Calls Tryz.prog 171 #[.pointer (some ⟨r, 0, none⟩), .int .i64 (x : Int)] w fun e w' => NumTo x l w r ao n cap at_ en e w' := by
  have c0 := hr.c0
  have c1 := hr.c1
  have c2 := hr.c2
  have f1 := hr.free 1
  have f2 := hr.free 2
  have hn := hs.hroom
  have HR := hidden hr
  have hlen := hs.hlen
  have hx0 : 1 ≤ (x : Int) ∧ (x : Int) ≤ 8 := by omega
  by_cases h : x ≤ n - at_
  · have HF : Hid (∀ q, Calls Tryz.prog 183 #[.slice ao n cap, .int .i64 (at_ : Int), .int .i64 (x : Int)] (w.drewN q) fun e w' => e = .returned (.tuple #[.int .u64 (rdB ((l.drop at_).take x)), .int .i64 0]) ∧ w' = w.drewN q) :=
      hidden fun q => by simpa using readFixed_ok ao n cap l (at_ : Int) (x : Int) (w.drewN q) (hs.drewN q) hx0.1 hx0.2 (by omega) (by omega)
    have hp : pNum x (l.drop at_) = some (rdB ((l.drop at_).take x), l.drop (at_ + x)) := by
      unfold pNum
      rw [if_neg (by rw [List.length_drop]; omega), List.drop_drop]
    have hb := rdB_bound ((l.drop at_).take x) ((hs.wf.drop at_).take x)
    rw [show ((l.drop at_).take x).length = x from by rw [List.length_take, List.length_drop]; omega] at hb
    have HB := hidden hb
    have hb8 : rdB ((l.drop at_).take x) < 4294967296 := by rcases hx with rfl | rfl | rfl <;> omega
    generalize rdB ((l.drop at_).take x) = v at *
    have hv0 := hb.1
    have HP := hidden hp
    clear hp hb hs
    have hw : wrap64 v = v := by simp [wrap64]; omega
    have HS : ∀ q, Hid (Rd ((w.drewN q).setCell ⟨r, 1, none⟩ (.int .i64 ((at_ + x : Nat) : Int))) r ao n cap (at_ + x) en) := fun q => hidden (Rd.set1 (HR.out.drewN q) (at_ + x))
    go_enter Tryz.func171, Tryz.ntmps171
    go_wp2_with fail
    go_quiet (first | (go_at_call 183; exact Calls.quiet_of_same (HF.out _)))
    go_wp2
    go_ret
    exact ⟨v, at_ + x, en, rfl, by simpa using HS _, hidden ((Cf.drew _ _ _).go (Cf.set _ _ _ _)), hidden ⟨HB.out, by omega, .inl ⟨HP.out, rfl⟩⟩⟩
  · have HF : Hid (∀ q, Calls Tryz.prog 183 #[.slice ao n cap, .int .i64 (at_ : Int), .int .i64 (x : Int)] (w.drewN q) fun e w' => e = .returned (.tuple #[.int .u64 0, .int .i64 10]) ∧ w' = w.drewN q) :=
      hidden fun q => by simpa using readFixed_short ao n cap (at_ : Int) (x : Int) (w.drewN q) hx0.1 hx0.2 (by omega) (by omega) (by omega)
    have hp : pNum x (l.drop at_) = none := by
      unfold pNum
      rw [if_pos (by rw [List.length_drop]; omega)]
    have HP := hidden hp
    clear hp hs
    go_enter Tryz.func171, Tryz.ntmps171
    go_wp2_with fail
    go_quiet (first | (go_at_call 183; exact Calls.quiet_of_same (HF.out _)))
    go_wp2
    go_ret
    exact ⟨0, at_, true, rfl, hidden (Rd.set2 (HR.out.drewN _) true), hidden ((Cf.drew _ _ _).go (Cf.set _ _ _ _)), hidden ⟨⟨by omega, Int.pow_pos (by omega)⟩, ha, .inr ⟨HP.out, rfl, rfl, rfl⟩⟩⟩
end Go.Proofs.YtfcbfombobelmaaGreatDoor

/- plain.reader.text. -/

namespace Go.Proofs.YtfcbfombobelmaaGreatDoor
open Go.RowKit

set_option maxRecDepth 100000 in
/-- A piece of bytes. -/
theorem Sl.piece {w : World} {g off n cap : Nat} {l : List Int} (h : Sl w (some ⟨g, off, none⟩) n cap l) (a k c : Nat) (hk : a + k ≤ n) (hc : k ≤ c) : Sl w (some ⟨g, off + a, none⟩) k c ((l.drop a).take k) := by
  have hl := h.hlen
  refine ⟨by rw [List.length_take, List.length_drop]; omega, hc, Nat.le_trans (by omega) h.hroom, (h.wf.drop a).take k, (by intro e; cases e), ?_⟩
  rcases h.hat with h0 | ⟨b, o, e, hlt, hcl⟩
  · exact .inl (by omega)
  · injection e with e
    injection e with e1 e2
    subst e1 e2
    refine .inr ⟨g, off + a, rfl, hlt, fun i hi => ?_⟩
    rw [Nat.add_assoc, hcl (a + i) (by omega)]
    simp [List.getD, hi]
set_option maxRecDepth 100000 in
theorem Sl.nil_any (w : World) (ao : Option Addr) (c : Nat) (h : ao = none → c = 0) : Sl w ao 0 c [] := ⟨rfl, Nat.zero_le _, by omega, Wf.nil, h, .inl rfl⟩
/-- What text comes to. -/
def TextTo (l : List Int) (w : World) (r : Nat) (ao : Option Addr) (n cap at_ : Nat) (en : Bool) (e : Ending) (w' : World) : Prop :=
  ∃ (ko : Option Addr) (kn kc p : Nat) (en' : Bool) (t : List Int), e = .returned (.slice ko kn kc) ∧ Hid (Rd w' r ao n cap p en') ∧ Hid (Cf (· = r) w w') ∧ Hid (Sl w' ko kn kc t ∧ (∀ q, ko = some q → ∀ o, ao = some o → q.block = o.block) ∧ p ≤ n ∧ ((pText (l.drop at_) = some (t, l.drop p) ∧ en' = en) ∨ (pText (l.drop at_) = none ∧ en' = true)))
set_option maxRecDepth 100000 in
set_option maxHeartbeats 1000000 in
theorem text_any (l : List Int) (w : World) (r g off n cap at_ : Nat) (en : Bool) (hr : Rd w r (some ⟨g, off, none⟩) n cap at_ en) (hs : Sl w (some ⟨g, off, none⟩) n cap l) (ha : at_ ≤ n) :
    Calls Tryz.prog 172 #[.pointer (some ⟨r, 0, none⟩)] w fun e w' => TextTo l w r (some ⟨g, off, none⟩) n cap at_ en e w' := by
  have HN := hidden (number_any 2 l w r (some ⟨g, off, none⟩) n cap at_ en (.inr (.inl rfl)) hr hs ha)
  have HS := hidden hs
  have HAP := hidden (hs.apart hr)
  have hn := hs.hroom
  have hcap := hs.hcap
  clear hr hs
  go_enter Tryz.func172, Tryz.ntmps172
  go_wp2_with (first | (go_at_call 171; refine HN.out.mono ?_; rintro e w1 ⟨v, p, en', rfl, HR, HC, HV⟩; refine Hid.out ?_))
  apply hidden
  clear HN
  obtain ⟨⟨hv0, hv1⟩, hp, hcase⟩ := HV.out
  clear HV
  have HCASE := hidden hcase
  clear hcase
  obtain ⟨m, rfl⟩ := Int.eq_ofNat_of_zero_le hv0
  have hm : m < 65536 := by omega
  clear hv0 hv1
  have HS1 : Hid (Sl w1 (some ⟨g, off, none⟩) n cap l) := hidden (HS.out.cf HC.out HAP.out)
  have c0 := HR.out.c0
  have c1 := HR.out.c1
  have c2 := HR.out.c2
  have f1 := HR.out.free 1
  have f2 := HR.out.free 2
  have HLEN := hidden HS.out.hlen
  by_cases h : (n : Int) - (p : Int) < (m : Int)
  · have d1 : decide ((n : Int) - (p : Int) < (m : Int)) = true := decide_eq_true h
    have HQ : Hid (pText (l.drop at_) = none) := by
      rcases HCASE.out with ⟨h1, h2⟩ | ⟨h1, h2, h3, h4⟩
      · refine hidden ?_
        unfold pText
        rw [h1]
        simp only
        rw [if_pos (by rw [List.length_drop, HLEN.out]; omega)]
      · omega
    go_wp2_with fail
    go_quiet (fail)
    go_wp2
    go_ret
    exact ⟨none, 0, 0, p, true, [], rfl, hidden (Rd.set2 (HR.out.drewN _) true), hidden ((HC.out.go (Cf.drew _ _ _)).go (Cf.set _ _ _ _)), hidden ⟨Sl.nil_any _ _ _ (fun _ => rfl), (by intro q hq; cases hq), hp, .inr ⟨HQ.out, rfl⟩⟩⟩
  · have d1 : decide ((n : Int) - (p : Int) < (m : Int)) = false := decide_eq_false h
    have HCASE2 : Hid (∃ tx, tx = (l.drop p).take m ∧ ((pText (l.drop at_) = some (tx, l.drop (p + m)) ∧ en' = en) ∨ (pText (l.drop at_) = none ∧ en' = true))) := by
      refine hidden ⟨(l.drop p).take m, rfl, ?_⟩
      rcases HCASE.out with ⟨h1, h2⟩ | ⟨h1, h2, h3, h4⟩
      · left
        refine ⟨?_, h2⟩
        unfold pText
        rw [h1]
        simp only
        rw [if_neg (by rw [List.length_drop, HLEN.out]; omega), Int.toNat_natCast, List.drop_drop]
      · right
        refine ⟨?_, h2⟩
        unfold pText
        rw [h1]
    have HAP2 : Hid (m = 0 ∨ ∀ q : Addr, some (⟨g, off + p, none⟩ : Addr) = some q → ¬ q.block = r) := by
      refine hidden ?_
      rcases HAP.out with h0 | h0
      · exact .inl (by omega)
      · exact .inr fun q hq => by injection hq with hq; subst hq; exact h0 ⟨g, off, none⟩ rfl
    by_cases hm0 : m = 0
    · subst hm0
      have p2 : p ≤ cap := by omega
      have p3 : (p : Int) ≤ (cap : Int) := by omega
      have HS2 : ∀ q, Hid (Rd ((w1.drewN q).setCell ⟨r, 1, none⟩ (.int .i64 (p : Int))) r (some ⟨g, off, none⟩) n cap p en') := fun q => hidden (Rd.set1 (HR.out.drewN q) p)
      have x0 := fun q => (HS2 q).out.c0
      have x1 := fun q => (HS2 q).out.c1
      have HCF : Hid (∀ q q' : Nat, Cf (· = r) w (((w1.drewN q).setCell ⟨r, 1, none⟩ (.int .i64 (p : Int))).drewN q')) := hidden fun q q' => ((HC.out.go (Cf.drew _ _ _)).go (Cf.set _ _ _ _)).go (Cf.drew _ _ _)
      clear h HAP2 HCASE
      go_wp2_with fail
      go_quiet (fail)
      go_wp2_with fail
      go_quiet (fail)
      go_wp2
      go_ret
      obtain ⟨tx, htx, hcx⟩ := HCASE2.out
      rw [List.take_zero] at htx
      subst htx
      exact ⟨_, _, _, p, en', [], rfl, hidden ((HS2 _).out.drewN _), hidden (HCF.out _ _), hidden ⟨Sl.nil_any _ _ _ (by intro h; cases h), (fun q hq o ho => by injection hq with hq; injection ho with ho; subst hq ho; rfl), hp, hcx⟩⟩
    · obtain ⟨t, ht⟩ : ∃ t, p + m = t := ⟨_, rfl⟩
      have htI : (p : Int) + (m : Int) = (t : Int) := by omega
      have t1 : p ≤ t := by omega
      have t2 : t ≤ n := by omega
      have t3 : t ≤ cap := by omega
      have t4 : (p : Int) ≤ (t : Int) := by omega
      have t5 : (t : Int) ≤ (cap : Int) := by omega
      have t6 : t - p = m := by omega
      have t7 : ¬ t = p := by omega
      have HS2 : ∀ q, Hid (Rd ((w1.drewN q).setCell ⟨r, 1, none⟩ (.int .i64 (t : Int))) r (some ⟨g, off, none⟩) n cap t en') := fun q => hidden (Rd.set1 (HR.out.drewN q) t)
      have x0 := fun q => (HS2 q).out.c0
      have x1 := fun q => (HS2 q).out.c1
      have HCF : Hid (∀ q q' : Nat, Cf (· = r) w (((w1.drewN q).setCell ⟨r, 1, none⟩ (.int .i64 (t : Int))).drewN q')) := hidden fun q q' => ((HC.out.go (Cf.drew _ _ _)).go (Cf.set _ _ _ _)).go (Cf.drew _ _ _)
      have HCF1 : Hid (∀ q q' : Nat, Cf (· = r) w1 (((w1.drewN q).setCell ⟨r, 1, none⟩ (.int .i64 (t : Int))).drewN q')) := hidden fun q q' => ((Cf.drew _ _ _).go (Cf.set _ _ _ _)).go (Cf.drew _ _ _)
      have HSX := hidden (HS1.out.piece p m m (by omega) (Nat.le_refl _))
      rw [ht] at HCASE2
      clear h HCASE ht
      go_wp2_with fail
      go_quiet (fail)
      go_wp2_with fail
      go_quiet (fail)
      go_wp2
      go_ret
      obtain ⟨tx, htx, hcx⟩ := HCASE2.out
      subst htx
      exact ⟨_, _, _, t, en', _, rfl, hidden ((HS2 _).out.drewN _), hidden (HCF.out _ _), hidden ⟨HSX.out.cf (HCF1.out _ _) HAP2.out, (fun q hq o ho => by injection hq with hq; injection ho with ho; subst hq ho; rfl), t2, hcx⟩⟩
end Go.Proofs.YtfcbfombobelmaaGreatDoor
