/- packed.reader.cell. -/
import Derived.Test.YtaicpmlcklkjgaaGreatDoorJ12
import Derived.Test.YtaicpmlcklkjgaaGreatDoorJ13
import Derived.Test.YtaicpmlcklkjgaaGreatDoorJ24
import Derived.Test.YtaicpmlcklkjgaaGreatDoorJ01
namespace Go.Proofs.YtaicpmlcklkjgaaGreatDoor
open Go.RowKit

set_option maxRecDepth 100000 in
theorem Rdq.cf {w w' : World} {r : Nat} {ao : Option Addr} {n cap at_ : Nat} {en : Bool} {F : Nat → Prop} (h : Rdq w r ao n cap at_ en) (hc : Cf F w w') (hg : ¬ F r) : Rdq w' r ao n cap at_ en := (hc.block r h.lt hg).trans h
/-- cell, under way: its two blocks are k and k + 1. -/
structure Csq (w u : World) (k r g off n cap p : Nat) (en : Bool) (l : List Int) (x0 x1 x2 x3 x4 : Value) : Prop where
  rd : Rdq u r (some ⟨g, off, none⟩) n cap p en
  sl : Sl u (some ⟨g, off, none⟩) n cap l
  c2 : C5 u k (.slice none 0 0) (.int .i64 0) (.slice none 0 0) (.int .i64 0) (.int .i64 0)
  c3 : C5 u (k + 1) x0 x1 x2 x3 x4
  cf : Cf (· = r) w u
  hk : k = w.heap.size
  hp : p ≤ n
set_option maxRecDepth 100000 in
theorem Csq.r_lt {w u : World} {k r g off n cap p : Nat} {en : Bool} {l : List Int} {x0 x1 x2 x3 x4 : Value} (h : Csq w u k r g off n cap p en l x0 x1 x2 x3 x4) (hr : r < w.heap.size) : ¬ k = r ∧ ¬ k + 1 = r := by
  have := h.hk
  omega
set_option maxRecDepth 100000 in
theorem Csq.kind {w u : World} {k r g off n cap p : Nat} {en : Bool} {l : List Int} {x0 x1 x2 x3 x4 : Value} (h : Csq w u k r g off n cap p en l x0 x1 x2 x3 x4) (hr : r < w.heap.size) :
    Calls Tryz.prog 229 #[.pointer (some ⟨r, 0, none⟩)] u fun e w' => ∃ (v : Int) (p' : Nat) (en' : Bool), e = .returned (.int .i64 v) ∧ Hid (Csq w w' k r g off n cap p' en' l x0 x1 x2 x3 x4) ∧ Hid ((pNum 1 (l.drop p) = some (v, l.drop p') ∧ en' = en) ∨ (pNum 1 (l.drop p) = none ∧ en' = true)) ∧ Hid (Cf (· = r) u w') := by
  refine (kind_any l u r _ n cap p en h.rd h.sl h.hp).mono ?_
  rintro e w' ⟨v, p', en', rfl, HR, HC, HV⟩
  obtain ⟨h1, h2⟩ := h.r_lt hr
  obtain ⟨_, hp, hv⟩ := HV.out
  refine ⟨v, p', en', rfl, hidden ⟨HR.out, h.sl.cf HC.out (h.sl.apartq h.rd), h.c2.cf HC.out h1, h.c3.cf HC.out h2, h.cf.go HC.out, h.hk, hp⟩, hidden ?_, HC⟩
  rcases hv with ⟨a, b⟩ | ⟨a, b, c, d⟩
  · exact .inl ⟨a, b⟩
  · exact .inr ⟨a, b⟩
set_option maxRecDepth 100000 in
theorem Csq.text {w u : World} {k r g off n cap p : Nat} {en : Bool} {l : List Int} {x0 x1 x2 x3 x4 : Value} (h : Csq w u k r g off n cap p en l x0 x1 x2 x3 x4) (hr : r < w.heap.size) :
    Calls Tryz.prog 230 #[.pointer (some ⟨r, 0, none⟩)] u fun e w' => ∃ (ko : Option Addr) (kn kc p' : Nat) (en' : Bool) (t : List Int), e = .returned (.slice ko kn kc) ∧ Hid (Csq w w' k r g off n cap p' en' l x0 x1 x2 x3 x4) ∧ Hid (Sl w' ko kn kc t ∧ (∀ q, ko = some q → q.block = g) ∧ kn ≤ n) ∧ Hid ((pT (l.drop p) = some (t, l.drop p') ∧ en' = en) ∨ (pT (l.drop p) = none ∧ en' = true)) ∧ Hid (Cf (· = r) u w') := by
  refine (utext_any l u r g off n cap p en h.rd h.sl h.hp).mono ?_
  rintro e w' ⟨ko, kn, kc, p', en', t, rfl, HR, HC, HV⟩
  obtain ⟨h1, h2⟩ := h.r_lt hr
  obtain ⟨hs, hloc, ⟨hp, hkn⟩, hv⟩ := HV.out
  exact ⟨ko, kn, kc, p', en', t, rfl, hidden ⟨HR.out, h.sl.cf HC.out (h.sl.apartq h.rd), h.c2.cf HC.out h1, h.c3.cf HC.out h2, h.cf.go HC.out, h.hk, hp⟩, hidden ⟨hs, fun q hq => hloc q hq _ rfl, hkn⟩, hidden hv, HC⟩
set_option maxRecDepth 100000 in
/-- A store into the cell's block. -/
theorem Csq.store {w u : World} {k r g off n cap p : Nat} {en : Bool} {l : List Int} {a b : Option Addr} {c d e f : Nat} {x y z : Int} (h : Csq w u k r g off n cap p en l (.slice a c d) (.int .i64 x) (.slice b e f) (.int .i64 y) (.int .i64 z)) (hr : r < w.heap.size) (i : Nat) (v : Value) {y0 y1 y2 y3 y4 : Value} (hy : C5 (u.setCell ⟨k + 1, i, none⟩ v) (k + 1) y0 y1 y2 y3 y4) :
    Csq w (u.setCell ⟨k + 1, i, none⟩ v) k r g off n cap p en l y0 y1 y2 y3 y4 := by
  obtain ⟨h1, h2⟩ := h.r_lt hr
  have hc := Cf.set u (k + 1) i v
  refine ⟨h.rd.cf hc (by omega), h.sl.cf hc (h.sl.apart5 h.c3), h.c2.cf hc (by omega), hy, ?_, h.hk, h.hp⟩
  refine h.cf.trans hc ?_
  intro j hj e
  have := h.hk
  omega
/-- What cell comes to. -/
def UCellTo (l : List Int) (w : World) (r g off n cap at_ : Nat) (en : Bool) (e : Ending) (w' : World) : Prop :=
  ∃ (ko : Option Addr) (kn kc : Nat) (kd : Int) (vo : Option Addr) (vn vc : Nat) (pg ct : Int) (p : Nat) (en' : Bool) (key val : List Int), e = .returned (.agg #[.slice ko kn kc, .int .i64 kd, .slice vo vn vc, .int .i64 pg, .int .i64 ct]) ∧ Hid (Rdq w' r (some ⟨g, off, none⟩) n cap p en') ∧ Hid (Cf (· = r) w w') ∧
    Hid (Sl w' ko kn kc key ∧ Sl w' vo vn vc val ∧ (∀ q, ko = some q → q.block = g) ∧ (∀ q, vo = some q → q.block = g) ∧ (p ≤ n ∧ kn ≤ n) ∧ ((pC (l.drop at_) = some (⟨key, kd, val, pg, ct⟩, l.drop p) ∧ en' = en) ∨ (pC (l.drop at_) = none ∧ en' = true)))
set_option maxRecDepth 100000 in
/-- The end of cell. -/
theorem Csq.fin {w u : World} {k r g off n cap p at_ : Nat} {en en' : Bool} {l : List Int} {ko vo : Option Addr} {kn kc vn vc : Nat} {kd pg ct : Int} (h : Csq w u k r g off n cap p en' l (.slice ko kn kc) (.int .i64 kd) (.slice vo vn vc) (.int .i64 pg) (.int .i64 ct)) (hr : r < w.heap.size) {key val : List Int}
    (hk : Sl u ko kn kc key) (hv : Sl u vo vn vc val) (hloc : ∀ q, ko = some q → q.block = g) (hlocV : ∀ q, vo = some q → q.block = g) (hkn : kn ≤ n) (hc : (pC (l.drop at_) = some (⟨key, kd, val, pg, ct⟩, l.drop p) ∧ en' = en) ∨ (pC (l.drop at_) = none ∧ en' = true)) :
    UCellTo l w r g off n cap at_ en (.returned (.agg #[.slice ko kn kc, .int .i64 kd, .slice vo vn vc, .int .i64 pg, .int .i64 ct])) (put5 u k (.slice ko kn kc) (.int .i64 kd) (.slice vo vn vc) (.int .i64 pg) (.int .i64 ct)) := by
  obtain ⟨h1, h2⟩ := h.r_lt hr
  have hf := put5_cf u k (.slice ko kn kc) (.int .i64 kd) (.slice vo vn vc) (.int .i64 pg) (.int .i64 ct)
  refine ⟨ko, kn, kc, kd, vo, vn, vc, pg, ct, p, en', key, val, rfl, hidden (h.rd.cf hf (by omega)), hidden (h.cf.trans hf ?_), hidden ⟨hk.cf hf (hk.apart5 h.c2), hv.cf hf (hv.apart5 h.c2), hloc, hlocV, ⟨h.hp, hkn⟩, hc⟩⟩
  intro j hj e
  have := h.hk
  omega
end Go.Proofs.YtaicpmlcklkjgaaGreatDoor

/- ink.Uint writes a number in groups of seven bits, into memory of its own. -/

namespace Go.Proofs.YtaicpmlcklkjgaaGreatDoor
open Go.RowKit

set_option maxRecDepth 100000 in
set_option maxHeartbeats 400000 in
theorem uint_any (n : Int) (w : World) (h0 : 0 ≤ n) (hn : n < 18446744073709551616) :
    Calls Tryz.prog 228 #[.int .u64 n] w fun e w' => ∃ v, e = .returned v ∧ OwnB w' w.heap.size v (uB n) ∧ Below w.heap.size w w' := by
  obtain ⟨i0, hi, hz0, hz1, hz2⟩ := info_parts info5
  go_enter Tryz.func228, Tryz.ntmps228
  go_wp2_with (at_make; refine wpList_make_own _ rfl _ _ 41 rfl w.heap.size 5 i0 (.int .u8 0) 1 Tryz.underlying41 hi hz0 hz1 .i64 .i64 10 10 rfl rfl rfl (by rw [hz2]; omega) (by decide) (Nat.le_refl _) ?_)
  intro w1 hown1 hg1
  have hb1 : Below w.heap.size w w1 := (Below.refl _ _).grown hg1 (Nat.le_refl _) (fun k hk => by cases hk)
  go_wp2_with fail
  go_loopw [0, 3] (fun x v wr => ∃ (m : Int) (acc : List Int), 0 ≤ m ∧ m < 18446744073709551616 ∧ x = .int .u64 m ∧ acc ++ uB m = uB n ∧ OwnB wr w.heap.size v acc ∧ Below w.heap.size w wr) (fun x _ _ => (intOf x).toNat)
  case atStart => exact ⟨n, [], h0, hn, rfl, rfl, hown1, hb1⟩
  case round =>
    obtain ⟨m, acc, hm0, hm, rfl, hac, hown, hb⟩ := hrel
    have Hac := hac
    have HA : Hid (acc ++ uB m = uB n) := hac
    clear hac Hac
    have hsz := hb.size
    have hlen : acc.length + 1 ≤ 10 := by
      have h1 := congrArg List.length HA.out
      have h2 := uB_length m
      have h3 := uB_length n
      simp only [List.length_append] at h1
      omega
    have hor := or128 m
    by_cases hlt : m < 128
    · go_wp2_with (at_builtin; refine app_bytes _ rfl _ _ rfl w.heap.size acc _ rfl (hown.alloc _) _ 1 1 [m] rfl rfl (one_cell _ _) (by omega) (by simp; omega) ?_)
      intro v' w2 hown2 hb2
      rw [← uB_small hlt, HA.out] at hown2
      have R : Below w.heap.size w w2 := (hb.alloc hsz _).trans hb2
      clear hb2
      go_wp2
      go_ret
      exact ⟨_, rfl, hown2, R⟩
    · go_wp2_with (at_builtin; refine app_bytes _ rfl _ _ rfl w.heap.size acc _ rfl (hown.alloc _) _ 1 1 [m % 128 + 128] rfl rfl (one_cell _ _) (by omega) (by simp; omega) ?_)
      intro v' w2 hown2 hb2
      have R : Below w.heap.size w w2 := (hb.alloc hsz _).trans hb2
      clear hb2
      go_wp2
      go_roundw
      case rel => exact ⟨m / 128, acc ++ [m % 128 + 128], by omega, by omega, rfl, by rw [← HA.out, uB_step (by omega) hm]; simp, hown2, R⟩
      case measure => simp [intOf]; omega
end Go.Proofs.YtaicpmlcklkjgaaGreatDoor
