/- plain.reader: number, text and cell: what they read of bytes. -/
import Derived.Test.YtdmpbdppdcaabaaDoorFe
namespace Go.Proofs.YtdmpbdppdcaabaaDoor
open Go.RowKit

/-- Behind w' all blocks that w had are as they were, but those of F. -/
structure Cf (F : Nat → Prop) (w w' : World) : Prop where
  os : w'.os = w.os
  tape : w'.tape = w.tape
  output : w'.output = w.output
  size : w.heap.size ≤ w'.heap.size
  block : ∀ k, k < w.heap.size → ¬ F k → w'.heap[k]? = w.heap[k]?
set_option maxRecDepth 100000 in
theorem Cf.refl (F : Nat → Prop) (w : World) : Cf F w w := ⟨rfl, rfl, rfl, Nat.le_refl _, fun _ _ _ => rfl⟩
set_option maxRecDepth 100000 in
theorem Cf.trans {F G : Nat → Prop} {a b c : World} (h : Cf F a b) (k : Cf G b c) (hG : ∀ i, i < a.heap.size → G i → F i) : Cf F a c :=
  ⟨k.os.trans h.os, k.tape.trans h.tape, k.output.trans h.output, Nat.le_trans h.size k.size, fun i hi hf => (k.block i (Nat.lt_of_lt_of_le hi h.size) fun g => hf (hG i hi g)).trans (h.block i hi hf)⟩
set_option maxRecDepth 100000 in
theorem Cf.go {F : Nat → Prop} {a b c : World} (h : Cf F a b) (k : Cf F b c) : Cf F a c := h.trans k fun _ _ g => g
set_option maxRecDepth 100000 in
theorem Cf.of_below {F : Nat → Prop} {a b : World} (h : Below a.heap.size a b) : Cf F a b := ⟨h.os, h.tape, h.output, h.size, fun k hk _ => h.block k hk⟩
set_option maxRecDepth 100000 in
theorem Cf.below {F : Nat → Prop} {a b : World} {B : Nat} (h : Cf F a b) (hB : B ≤ a.heap.size) (hF : ∀ k, k < B → ¬ F k) : Below B a b := ⟨h.os, h.tape, h.output, h.size, fun k hk => h.block k (by omega) (hF k hk)⟩
set_option maxRecDepth 100000 in
theorem Cf.alloc (F : Nat → Prop) (w : World) (o : Obj) : Cf F w (w.alloc o) := ⟨rfl, rfl, rfl, by simp, fun k hk _ => Below.heap_alloc _ _ _ hk⟩
set_option maxRecDepth 100000 in
theorem Cf.setCell {F : Nat → Prop} (w : World) {p : Addr} (hp : F p.block) (u : Value) : Cf F w (w.setCell p u) :=
  ⟨rfl, rfl, rfl, by simp [World.setCell], fun k _ hk => Below.heap_setCell _ _ _ _ fun e => hk (e ▸ hp)⟩
set_option maxRecDepth 100000 in
theorem Cf.set (w : World) (r k : Nat) (u : Value) : Cf (· = r) w (w.setCell ⟨r, k, none⟩ u) := Cf.setCell (F := (· = r)) w (p := ⟨r, k, none⟩) rfl u
set_option maxRecDepth 100000 in
theorem Cf.drew (F : Nat → Prop) (w : World) (n : Nat) : Cf F w (w.drewN n) := ⟨rfl, rfl, rfl, Nat.le_refl _, fun _ _ _ => rfl⟩

/-- A reader. -/
def Rd (w : World) (r : Nat) (ao : Option Addr) (n cap at_ : Nat) (en : Bool) : Prop := w.heap[r]? = some (.cells #[.slice ao n cap, .int .i64 (at_ : Int), .bool en] 76 (0, 0))
set_option maxRecDepth 100000 in
theorem Rd.c0 {w : World} {r : Nat} {ao : Option Addr} {n cap at_ : Nat} {en : Bool} (h : Rd w r ao n cap at_ en) : w.cell? ⟨r, 0, none⟩ = some (.slice ao n cap) := by rw [cell_of_row _ _ 0 _ _ _ h]; rfl
set_option maxRecDepth 100000 in
theorem Rd.c1 {w : World} {r : Nat} {ao : Option Addr} {n cap at_ : Nat} {en : Bool} (h : Rd w r ao n cap at_ en) : w.cell? ⟨r, 1, none⟩ = some (.int .i64 (at_ : Int)) := by rw [cell_of_row _ _ 1 _ _ _ h]; rfl
set_option maxRecDepth 100000 in
theorem Rd.c2 {w : World} {r : Nat} {ao : Option Addr} {n cap at_ : Nat} {en : Bool} (h : Rd w r ao n cap at_ en) : w.cell? ⟨r, 2, none⟩ = some (.bool en) := by rw [cell_of_row _ _ 2 _ _ _ h]; rfl
set_option maxRecDepth 100000 in
theorem Rd.free {w : World} {r : Nat} {ao : Option Addr} {n cap at_ : Nat} {en : Bool} (h : Rd w r ao n cap at_ en) (k : Nat) : w.frozen? ⟨r, k, none⟩ = false := by
  unfold Rd at h
  simp [World.frozen?, h]
set_option maxRecDepth 100000 in
theorem Rd.drewN {w : World} {r : Nat} {ao : Option Addr} {n cap at_ : Nat} {en : Bool} (h : Rd w r ao n cap at_ en) (q : Nat) : Rd (w.drewN q) r ao n cap at_ en := h
set_option maxRecDepth 100000 in
theorem Rd.lt {w : World} {r : Nat} {ao : Option Addr} {n cap at_ : Nat} {en : Bool} (h : Rd w r ao n cap at_ en) : r < w.heap.size := lt_some h
set_option maxRecDepth 100000 in
theorem Rd.set1 {w : World} {r : Nat} {ao : Option Addr} {n cap at_ : Nat} {en : Bool} (h : Rd w r ao n cap at_ en) (x : Nat) : Rd (w.setCell ⟨r, 1, none⟩ (.int .i64 (x : Int))) r ao n cap x en := by
  unfold Rd at *
  have := set_row (w := w) (a := r) (cs := [.slice ao n cap, .int .i64 (at_ : Int), .bool en]) (i := 1) (u := .int .i64 (x : Int)) h
  simpa using this
set_option maxRecDepth 100000 in
theorem Rd.set2 {w : World} {r : Nat} {ao : Option Addr} {n cap at_ : Nat} {en : Bool} (h : Rd w r ao n cap at_ en) (x : Bool) : Rd (w.setCell ⟨r, 2, none⟩ (.bool x)) r ao n cap at_ x := by
  unfold Rd at *
  have := set_row (w := w) (a := r) (cs := [.slice ao n cap, .int .i64 (at_ : Int), .bool en]) (i := 2) (u := .bool x) h
  simpa using this
set_option maxRecDepth 100000 in
/-- The bytes don't lie in the reader. -/
theorem Sl.apart {w : World} {ao : Option Addr} {n cap : Nat} {l : List Int} (h : Sl w ao n cap l) {r : Nat} {a : Option Addr} {b c d : Nat} {en : Bool} (hr : Rd w r a b c d en) : n = 0 ∨ ∀ p, ao = some p → p.block ≠ r := by
  rcases h.hat with h0 | ⟨g, off, rfl, hg, hc⟩
  · exact .inl h0
  · rcases Nat.eq_zero_or_pos n with h0 | h0
    · exact .inl h0
    · right
      rintro p hp rfl
      injection hp with hp
      subst hp
      have h1 := hc 0 h0
      rw [cell_of_row _ _ _ _ _ _ hr] at h1
      rcases Nat.lt_or_ge (off + 0) 3 with h3 | h3
      · have h4 : off + 0 = 0 ∨ off + 0 = 1 ∨ off + 0 = 2 := by omega
        rcases h4 with h4 | h4 | h4 <;> (rw [h4] at h1; simp at h1)
      · rw [Array.getElem?_eq_none (by simpa using h3)] at h1
        cases h1
set_option maxRecDepth 100000 in
theorem Sl.cf {w w' : World} {ao : Option Addr} {n cap : Nat} {l : List Int} {F : Nat → Prop} (h : Sl w ao n cap l) (hc : Cf F w w') (hf : n = 0 ∨ ∀ p, ao = some p → ¬ F p.block) : Sl w' ao n cap l := by
  refine ⟨h.hlen, h.hcap, h.hroom, h.wf, h.hnil, ?_⟩
  rcases h.hat with h0 | ⟨b, off, e, hlt, hcl⟩
  · exact .inl h0
  · rcases hf with h0 | hf
    · exact .inl h0
    · refine .inr ⟨b, off, e, Nat.lt_of_lt_of_le hlt hc.size, fun i hi => ?_⟩
      have := hc.block b hlt (hf _ e)
      rw [← hcl i hi]
      simp only [World.cell?, this]

/-- What number comes to. -/
def NumTo (x : Nat) (l : List Int) (w : World) (r : Nat) (ao : Option Addr) (n cap at_ : Nat) (en : Bool) (e : Ending) (w' : World) : Prop :=
  ∃ (v : Int) (p : Nat) (en' : Bool), e = .returned (.int .i64 v) ∧ Hid (Rd w' r ao n cap p en') ∧ Hid (Cf (· = r) w w') ∧ Hid ((0 ≤ v ∧ v < 256 ^ x) ∧ p ≤ n ∧ ((pNum x (l.drop at_) = some (v, l.drop p) ∧ en' = en) ∨ (pNum x (l.drop at_) = none ∧ en' = true ∧ v = 0 ∧ p = at_)))

set_option maxRecDepth 100000 in
set_option maxHeartbeats 1000000 in
theorem number_any (x : Nat) (l : List Int) (w : World) (r : Nat) (ao : Option Addr) (n cap at_ : Nat) (en : Bool) (hx : x = 1 ∨ x = 2 ∨ x = 4) (hr : Rd w r ao n cap at_ en) (hs : Sl w ao n cap l) (ha : at_ ≤ n) :
    Calls Tryd.prog 67 #[.pointer (some ⟨r, 0, none⟩), .int .i64 (x : Int)] w fun e w' => NumTo x l w r ao n cap at_ en e w' := by
  have c0 := hr.c0
  have c1 := hr.c1
  have c2 := hr.c2
  have f1 := hr.free 1
  have f2 := hr.free 2
  have hn := hs.hroom
  have HR := hidden hr
  have hlen := hs.hlen
  have hx0 : 1 ≤ (x : Int) ∧ (x : Int) ≤ 8 := by omega
  by_cases h : x ≤ n - at_
  · have HF : Hid (∀ q, Calls Tryd.prog 87 #[.slice ao n cap, .int .i64 (at_ : Int), .int .i64 (x : Int)] (w.drewN q) fun e w' => e = .returned (.tuple #[.int .u64 (rdB ((l.drop at_).take x)), .int .i64 0]) ∧ w' = w.drewN q) :=
      hidden fun q => by simpa using readFixed_ok ao n cap l (at_ : Int) (x : Int) (w.drewN q) (hs.drewN q) hx0.1 hx0.2 (by omega) (by omega)
    have hp : pNum x (l.drop at_) = some (rdB ((l.drop at_).take x), l.drop (at_ + x)) := by
      unfold pNum
      rw [if_neg (by rw [List.length_drop]; omega), List.drop_drop]
    have hb := rdB_bound ((l.drop at_).take x) ((hs.wf.drop at_).take x)
    rw [show ((l.drop at_).take x).length = x from by rw [List.length_take, List.length_drop]; omega] at hb
    have HB := hidden hb
    have hb8 : rdB ((l.drop at_).take x) < 4294967296 := by rcases hx with rfl | rfl | rfl <;> omega
    generalize rdB ((l.drop at_).take x) = v at *
    have hv0 := hb.1
    have HP := hidden hp
    clear hp hb hs
    have hw : wrap64 v = v := by simp [wrap64]; omega
    have HS : ∀ q, Hid (Rd ((w.drewN q).setCell ⟨r, 1, none⟩ (.int .i64 ((at_ + x : Nat) : Int))) r ao n cap (at_ + x) en) := fun q => hidden (Rd.set1 (HR.out.drewN q) (at_ + x))
    go_enter Tryd.func67, Tryd.ntmps67
    go_wp2_with fail
    go_quiet (first | (go_at_call 87; exact Calls.quiet_of_same (HF.out _)))
    go_wp2
    go_ret
    exact ⟨v, at_ + x, en, rfl, by simpa using HS _, hidden ((Cf.drew _ _ _).go (Cf.set _ _ _ _)), hidden ⟨HB.out, by omega, .inl ⟨HP.out, rfl⟩⟩⟩
  · have HF : Hid (∀ q, Calls Tryd.prog 87 #[.slice ao n cap, .int .i64 (at_ : Int), .int .i64 (x : Int)] (w.drewN q) fun e w' => e = .returned (.tuple #[.int .u64 0, .int .i64 10]) ∧ w' = w.drewN q) :=
      hidden fun q => by simpa using readFixed_short ao n cap (at_ : Int) (x : Int) (w.drewN q) hx0.1 hx0.2 (by omega) (by omega) (by omega)
    have hp : pNum x (l.drop at_) = none := by
      unfold pNum
      rw [if_pos (by rw [List.length_drop]; omega)]
    have HP := hidden hp
    clear hp hs
    go_enter Tryd.func67, Tryd.ntmps67
    go_wp2_with fail
    go_quiet (first | (go_at_call 87; exact Calls.quiet_of_same (HF.out _)))
    go_wp2
    go_ret
    exact ⟨0, at_, true, rfl, hidden (Rd.set2 (HR.out.drewN _) true), hidden ((Cf.drew _ _ _).go (Cf.set _ _ _ _)), hidden ⟨⟨by omega, Int.pow_pos (by omega)⟩, ha, .inr ⟨HP.out, rfl, rfl, rfl⟩⟩⟩
end Go.Proofs.YtdmpbdppdcaabaaDoor
