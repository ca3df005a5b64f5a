/- ink.Uint writes a number in groups of seven bits, into memory of its own. -/
import Derived.Test.YtpjgmepafekhkaaGreatDoorMath
import Derived.Test.YtpjgmepafekhkaaGreatDoorJg
import Derived.Laws.AppendOwnNone
import Derived.Maps.AppendAt
namespace Go.Proofs.YtpjgmepafekhkaaGreatDoor
open Go.RowKit

set_option maxRecDepth 100000 in
set_option maxHeartbeats 400000 in
theorem uint_any (n : Int) (w : World) (h0 : 0 ≤ n) (hn : n < 18446744073709551616) :
    Calls Tryz.prog 98 #[.int .u64 n] w fun e w' => ∃ v, e = .returned v ∧ OwnB w' w.heap.size v (uB n) ∧ Below w.heap.size w w' := by
  obtain ⟨i0, hi, hz0, hz1, hz2⟩ := info_parts info5
  go_enter Tryz.func98, Tryz.ntmps98
  go_wp2_with (at_make; refine wpList_make_own _ rfl _ _ 26 rfl w.heap.size 5 i0 (.int .u8 0) 1 Tryz.underlying26 hi hz0 hz1 .i64 .i64 10 10 rfl rfl rfl (by rw [hz2]; omega) (by decide) (Nat.le_refl _) ?_)
  intro w1 hown1 hg1
  have hb1 : Below w.heap.size w w1 := (Below.refl _ _).grown hg1 (Nat.le_refl _) (fun k hk => by cases hk)
  go_wp2_with fail
  go_loopw [0, 3] (fun x v wr => ∃ (m : Int) (acc : List Int), 0 ≤ m ∧ m < 18446744073709551616 ∧ x = .int .u64 m ∧ acc ++ uB m = uB n ∧ OwnB wr w.heap.size v acc ∧ Below w.heap.size w wr) (fun x _ _ => (intOf x).toNat)
  case atStart => exact ⟨n, [], h0, hn, rfl, rfl, hown1, hb1⟩
  case round =>
    obtain ⟨m, acc, hm0, hm, rfl, hac, hown, hb⟩ := hrel
    have Hac := hac
    have HA : Hid (acc ++ uB m = uB n) := hac
    clear hac Hac
    have hsz := hb.size
    have hlen : acc.length + 1 ≤ 10 := by
      have h1 := congrArg List.length HA.out
      have h2 := uB_length m
      have h3 := uB_length n
      simp only [List.length_append] at h1
      omega
    have hor := or128 m
    by_cases hlt : m < 128
    · go_wp2_with (at_builtin; refine app_bytes _ rfl _ _ rfl w.heap.size acc _ rfl (hown.alloc _) _ 1 1 [m] rfl rfl (one_cell _ _) (by omega) (by simp; omega) ?_)
      intro v' w2 hown2 hb2
      rw [← uB_small hlt, HA.out] at hown2
      have R : Below w.heap.size w w2 := (hb.alloc hsz _).trans hb2
      clear hb2
      go_wp2
      go_ret
      exact ⟨_, rfl, hown2, R⟩
    · go_wp2_with (at_builtin; refine app_bytes _ rfl _ _ rfl w.heap.size acc _ rfl (hown.alloc _) _ 1 1 [m % 128 + 128] rfl rfl (one_cell _ _) (by omega) (by simp; omega) ?_)
      intro v' w2 hown2 hb2
      have R : Below w.heap.size w w2 := (hb.alloc hsz _).trans hb2
      clear hb2
      go_wp2
      go_roundw
      case rel => exact ⟨m / 128, acc ++ [m % 128 + 128], by omega, by omega, rfl, by rw [← HA.out, uB_step (by omega) hm]; simp, hown2, R⟩
      case measure => simp [intOf]; omega
end Go.Proofs.YtpjgmepafekhkaaGreatDoor

/- packed.entry: rest, withKey, key. -/

namespace Go.Proofs.YtpjgmepafekhkaaGreatDoor
open Go.RowKit

/-- What was grown lies where it lay, or in a new block; nothing else has turned. -/
structure Gr (w : World) (v : Value) (w' : World) (v' : Value) : Prop where
  grow : w.grownBy w' v.ownBlock
  own : v'.ownBlock = v.ownBlock ∨ ∃ k, v'.ownBlock = some k ∧ w.heap.size ≤ k
set_option maxRecDepth 100000 in
theorem Gr.ofBelow {w w' : World} (v : Value) (h : Below w.heap.size w w') : Gr w v w' v := ⟨⟨h.os, h.tape, h.output, h.size, fun k hk _ => h.block k hk⟩, .inl rfl⟩
set_option maxRecDepth 100000 in
theorem Gr.refl (w : World) (v : Value) : Gr w v w v := Gr.ofBelow v (Below.refl _ _)
set_option maxRecDepth 100000 in
theorem Gr.alloc (w : World) (v : Value) (o : Obj) : Gr w v (w.alloc o) v := Gr.ofBelow v ((Below.refl _ _).alloc (Nat.le_refl _) o)
set_option maxRecDepth 100000 in
theorem Gr.trans {w w1 w2 : World} {v v1 v2 : Value} (a : Gr w v w1 v1) (b : Gr w1 v1 w2 v2) : Gr w v w2 v2 := by
  have hs := a.grow.size
  refine ⟨⟨b.grow.os.trans a.grow.os, b.grow.tape.trans a.grow.tape, b.grow.output.trans a.grow.output, Nat.le_trans hs b.grow.size, fun k hk hne => ?_⟩, ?_⟩
  · refine (b.grow.block k (Nat.lt_of_lt_of_le hk hs) ?_).trans (a.grow.block k hk hne)
    rcases a.own with h | ⟨k', h, hk'⟩
    · rw [h]; exact hne
    · rw [h]; intro e; cases e; omega
  · rcases b.own with h | ⟨k', h, hk'⟩
    · rcases a.own with h' | ⟨k'', h', hk''⟩
      · exact .inl (h.trans h')
      · exact .inr ⟨k'', h.trans h', hk''⟩
    · exact .inr ⟨k', h, by omega⟩
set_option maxRecDepth 100000 in
theorem Gr.below {w w' : World} {v v' : Value} {B : Nat} {l : List Int} (h : Gr w v w' v') (hown : OwnB w B v l) (hB : B ≤ w.heap.size) : Below B w w' := own_below hown hB h.grow
/-- A slice that does not lie in what an owned value has. -/
def Far (ao : Option Addr) (n : Nat) (v : Value) : Prop := n = 0 ∨ ∀ p, ao = some p → v.ownBlock ≠ some p.block
set_option maxRecDepth 100000 in
theorem Sl.gr {w w' : World} {v v' : Value} {ao : Option Addr} {n cap : Nat} {l : List Int} (h : Sl w ao n cap l) (hg : Gr w v w' v') (hf : Far ao n v) : Sl w' ao n cap l := by
  refine ⟨h.hlen, h.hcap, h.hroom, h.wf, h.hnil, ?_⟩
  rcases h.hat with h0 | ⟨b, off, e, hlt, hc⟩
  · exact .inl h0
  · rcases hf with h0 | hf
    · exact .inl h0
    · refine .inr ⟨b, off, e, Nat.lt_of_lt_of_le hlt hg.grow.size, fun i hi => ?_⟩
      rw [← hc i hi]
      exact World.cell?_of_block (hg.grow.block b hlt (fun e2 => hf _ e e2.symm))
set_option maxRecDepth 100000 in
theorem Far.gr {w w' : World} {v v' : Value} {ao : Option Addr} {n cap : Nat} {l : List Int} (hf : Far ao n v) (h : Sl w ao n cap l) (hg : Gr w v w' v') : Far ao n v' := by
  rcases hf with h0 | hf
  · exact .inl h0
  · rcases h.hat with h0 | ⟨b, off, rfl, hlt, hc⟩
    · exact .inl h0
    · right
      intro p hp
      injection hp with hp
      subst hp
      rcases hg.own with e | ⟨k, e, hk⟩
      · rw [e]; exact hf _ rfl
      · rw [e]; intro h; injection h with h; simp only at h; omega
set_option maxRecDepth 100000 in
theorem OwnB.low {w : World} {B C : Nat} {v : Value} {l : List Int} (h : OwnB w C v l) (hB : B ≤ C) : OwnB w B v l := by
  unfold OwnB at *
  rcases h.2 with h2 | ⟨g, cap, cur, e, hg, rest⟩
  · exact ⟨h.1, .inl h2⟩
  · exact ⟨h.1, .inr ⟨g, cap, cur, e, Nat.le_trans hB hg, rest⟩⟩
set_option maxRecDepth 100000 in
theorem OwnB.far {w : World} {B : Nat} {v : Value} {l : List Int} (h : OwnB w B v l) {ao : Option Addr} {n : Nat} (hb : ∀ p, ao = some p → p.block < B) : Far ao n v := by
  right
  intro p hp e
  have := hb p hp
  unfold OwnB at h
  have h2 := (h.lt p.block e).1
  omega

set_option maxRecDepth 100000 in
/-- 'append(out, x...)', out the call's own or nil, x any bytes. -/
theorem app_sl {ops : Array Oper} {rest : List Oper} {o : Oper} {a : Act} {Q : Exit → Act → World → Prop} (w : World) (hgd : o.guard = none) (s x : Operand)
    (ho : o.op = .call { callee := .builtin .append, args := #[s, x], argTypes := #[26, 26] }) (B : Nat) (l news : List Int) (v : Value) (ao : Option Addr) (n c : Nat) (hs : a.eval s = v) (hx : a.eval x = .slice ao n c)
    (hown : OwnB w B v l) (hsl : Sl w ao n c news) (hb : l.length + n ≤ 140737488355328) (hbase : B ≤ w.heap.size)
    (h : ∀ v' w', OwnB w' B v' (l ++ news) → Gr w v w' v' → wpList Tryz.prog ops Q rest (a.put o.dst v') w') : wpList Tryz.prog ops Q (o :: rest) a w := by
  obtain ⟨i0, hi, hz0, hz1, hz2⟩ := info_parts info5
  have hlen := hsl.hlen
  cases ao with
  | none =>
    have : n = 0 := by have := hsl.hnil rfl; have := hsl.hcap; omega
    subst this
    have hc0 := hsl.hnil rfl
    subst hc0
    obtain rfl : news = [] := List.eq_nil_of_length_eq_zero hlen
    exact wpList_append_own_none hgd s x 26 ho B 5 i0 1 Tryz.underlying26 hi v l.length (By l) hs hown hx (h v w (by simpa using hown) (Gr.refl _ _))
  | some ad =>
    refine wpList_append_own_at w hgd s x 26 ho B 5 i0 (.int .u8 0) 1 1 Tryz.underlying26 hi hz0 hz1 hz2 rfl (by decide) v l.length (By l) hs hown ad n c (By news) hx (by simp [By, hlen])
      (fun j u hu => by
        obtain ⟨h1, h2⟩ := getElem?_By news j u hu
        rw [h2]
        rcases hsl.hat with h0 | ⟨b, off, e, _, hc⟩
        · omega
        · injection e with e
          subst e
          rw [Addr.add_lit]
          exact hc j (by omega)) (By_one news) (by unfold maxLen; omega) (by omega) hbase ?_
    intro v' w' h1 h2 _ h4
    refine h v' w' ?_ ⟨h2, h4.imp id fun e => ⟨_, e, Nat.le_refl _⟩⟩
    unfold OwnB
    rw [By_append, List.length_append, hlen]
    exact h1

set_option maxRecDepth 100000 in
theorem sl_one (w : World) (x : Int) (hx : 0 ≤ x ∧ x ≤ 255) : Sl (w.alloc (.cells #[.int .u8 x] 5)) (some ⟨w.heap.size, 0, none⟩) 1 1 [x] := by
  refine ⟨rfl, Nat.le_refl _, by omega, Wf.cons hx Wf.nil, (by intro h; cases h), .inr ⟨w.heap.size, 0, rfl, by simp, ?_⟩⟩
  intro i hi
  obtain rfl : i = 0 := by omega
  simp
set_option maxRecDepth 100000 in
theorem C5.box (w : World) (x0 x1 x2 x3 x4 : Value) : C5 (w.alloc (.cells #[x0, x1, x2, x3, x4] 47)) w.heap.size x0 x1 x2 x3 x4 := heap_alloc_last w _
/-- An entry's value. -/
def eV (ho : Option Addr) (hn hc : Nat) (ko : Option Addr) (kn kc : Nat) (kd : Int) (vo : Option Addr) (vn vc : Nat) (pg ct : Int) : Array Value := #[.slice ho hn hc, .slice ko kn kc, .int .i64 kd, .slice vo vn vc, .int .i64 pg, .int .i64 ct]
/-- An entry in a block of its own. -/
def E6 (w : World) (g : Nat) (x0 x1 x2 x3 x4 x5 : Value) : Prop := w.heap[g]? = some (.cells #[x0, x1, x2, x3, x4, x5] 57 (0, 0))
set_option maxRecDepth 100000 in
theorem E6.cells {w : World} {g : Nat} {x0 x1 x2 x3 x4 x5 : Value} (h : E6 w g x0 x1 x2 x3 x4 x5) :
    w.cell? ⟨g, 0, none⟩ = some x0 ∧ w.cell? ⟨g, 1, none⟩ = some x1 ∧ w.cell? ⟨g, 2, none⟩ = some x2 ∧ w.cell? ⟨g, 3, none⟩ = some x3 ∧ w.cell? ⟨g, 4, none⟩ = some x4 ∧ w.cell? ⟨g, 5, none⟩ = some x5 := by
  unfold E6 at h
  refine ⟨?_, ?_, ?_, ?_, ?_, ?_⟩
  · rw [cell_of_row _ _ 0 _ _ _ h]; rfl
  · rw [cell_of_row _ _ 1 _ _ _ h]; rfl
  · rw [cell_of_row _ _ 2 _ _ _ h]; rfl
  · rw [cell_of_row _ _ 3 _ _ _ h]; rfl
  · rw [cell_of_row _ _ 4 _ _ _ h]; rfl
  · rw [cell_of_row _ _ 5 _ _ _ h]; rfl
set_option maxRecDepth 100000 in
theorem E6.box (w : World) (x0 x1 x2 x3 x4 x5 : Value) : E6 (w.alloc (.cells #[x0, x1, x2, x3, x4, x5] 57)) w.heap.size x0 x1 x2 x3 x4 x5 := heap_alloc_last w _
set_option maxRecDepth 100000 in
theorem E6.gr {w w' : World} {v v' : Value} {g : Nat} {x0 x1 x2 x3 x4 x5 : Value} (h : E6 w g x0 x1 x2 x3 x4 x5) (hg : Gr w v w' v') (hv : v.ownBlock ≠ some g) : E6 w' g x0 x1 x2 x3 x4 x5 := (hg.grow.block g (lt_some h) (fun e => hv e.symm)).trans h
set_option maxRecDepth 100000 in
theorem OwnB.apart6 {w : World} {B : Nat} {v : Value} {l : List Int} (h : OwnB w B v l) {g : Nat} {x0 x1 x2 x3 x4 x5 : Value} (hc : E6 w g x0 x1 x2 x3 x4 x5) : v.ownBlock ≠ some g := by
  intro e
  unfold OwnB at h
  rcases h.2 with ⟨rfl, _⟩ | ⟨q, cap, cur, rfl, _, hh, _⟩
  · cases e
  · simp only [Value.ownBlock, Option.some.injEq] at e
    subst e
    unfold E6 at hc
    rw [hc] at hh
    simp at hh

set_option maxRecDepth 100000 in
theorem add_block (a : Addr) (n : Nat) : (a.add n).block = a.block := by simp only [Addr.add]; split <;> rfl
set_option maxRecDepth 100000 in
/-- A slice's end: behind its first n bytes, as the language cuts it. -/
theorem sl_from {w : World} {ao : Option Addr} {n cap : Nat} {l : List Int} (h : Sl w ao n cap l) (k : Nat) (hk : k ≤ n) : (ao = none ∧ n = 0 ∧ cap = 0) ∨ ∃ a, ao = some a ∧ ((cap = k ∧ Sl w (some a) (n - k) (cap - k) (l.drop k)) ∨ (cap ≠ k ∧ Sl w (some (a.add k)) (n - k) (cap - k) (l.drop k))) := by
  have hc := h.hcap
  cases ao with
  | none =>
    have := h.hnil rfl
    exact .inl ⟨rfl, by omega, this⟩
  | some a =>
    refine .inr ⟨a, rfl, ?_⟩
    by_cases e : cap = k
    · refine .inl ⟨e, ?_⟩
      have hn : n - k = 0 := by omega
      have hd : l.drop k = [] := List.drop_eq_nil_of_le (by have := h.hlen; omega)
      rw [hn, hd]
      exact Sl.nil_any _ _ _ (by intro h; cases h)
    · refine .inr ⟨e, ?_⟩
      by_cases hz : n = k
      · subst hz
        rw [Nat.sub_self, List.drop_eq_nil_of_le (by have := h.hlen; omega)]
        exact Sl.nil_any _ _ _ (by intro h; cases h)
      · rcases h.hat with h0 | ⟨b, off, e2, hlt, hcl⟩
        · omega
        · injection e2 with e2
          subst e2
          have := h.piece k (n - k) (cap - k) (by omega) (by omega)
          rw [List.take_of_length_le (by rw [List.length_drop]; have := h.hlen; omega)] at this
          simpa [Addr.add_lit] using this

/-- What rest comes to. -/
def RestTo (ho ko : Option Addr) (hn kn : Nat) (l : List Int) (w : World) (e : Ending) (w' : World) : Prop :=
  ∃ (a1 : Option Addr) (n1 c1 : Nat) (a2 : Option Addr) (n2 c2 : Nat) (l1 l2 : List Int), e = .returned (.tuple #[.slice a1 n1 c1, .slice a2 n2 c2]) ∧ Hid (Below w.heap.size w w') ∧ Hid (Sl w' a1 n1 c1 l1 ∧ Sl w' a2 n2 c2 l2 ∧ l1 ++ l2 = l ∧ (∀ q, a1 = some q → ∃ o, ho = some o ∧ q.block = o.block) ∧ (∀ q, a2 = some q → ∃ o, ko = some o ∧ q.block = o.block) ∧ n1 ≤ hn ∧ n2 ≤ kn)

set_option maxRecDepth 100000 in
set_option maxHeartbeats 1000000 in
theorem erest_any (ho : Option Addr) (hn hc : Nat) (ko : Option Addr) (kn kc : Nat) (kd : Int) (vo : Option Addr) (vn vc : Nat) (pg ct : Int) (h key : List Int) (n : Nat) (w : World) (hh : Sl w ho hn hc h) (hk : Sl w ko kn kc key) (hl : n ≤ hn + kn) :
    Calls Tryz.prog 97 #[.agg (eV ho hn hc ko kn kc kd vo vn vc pg ct), .int .i64 (n : Int)] w fun e w' => RestTo ho ko hn kn ((h ++ key).drop n) w e w' := by
  unfold eV
  have hhr := hh.hroom
  have hkr := hk.hroom
  have hhl := hh.hlen
  have hkl := hk.hlen
  have hhc := hh.hcap
  have hkc := hk.hcap
  obtain ⟨x, hx⟩ : ∃ x, w.alloc (.cells #[.slice ho hn hc, .slice ko kn kc, .int .i64 kd, .slice vo vn vc, .int .i64 pg, .int .i64 ct] 57) = x := ⟨_, rfl⟩
  have hbx : Below w.heap.size w x := by rw [← hx]; exact bl_al (Below.refl _ _) (Nat.le_refl _) _
  have hb6 : E6 x w.heap.size (.slice ho hn hc) (.slice ko kn kc) (.int .i64 kd) (.slice vo vn vc) (.int .i64 pg) (.int .i64 ct) := by rw [← hx]; exact E6.box w _ _ _ _ _ _
  obtain ⟨b0, b1, b2, b3, b4, b5⟩ := hb6.cells
  have HBX := hidden hbx
  have HK := hidden (hk.on (Nat.le_refl _) hbx)
  have HH := hidden (hh.on (Nat.le_refl _) hbx)
  have i1 : (n : Int) ≤ 281474976710656 := by omega
  have i2 : (hn : Int) ≤ 140737488355328 := by omega
  have i3 : (kn : Int) ≤ 140737488355328 := by omega
  by_cases hle : n ≤ hn
  · have hleI : (n : Int) ≤ (hn : Int) := by omega
    have hlc : n ≤ hc := by omega
    have hlcI : (n : Int) ≤ (hc : Int) := by omega
    have HD : Hid (h.drop n ++ key = (h ++ key).drop n) := hidden (by rw [List.drop_append_of_le_length (by omega)])
    rcases sl_from HH.out n hle with ⟨rfl, rfl, rfl⟩ | ⟨a, rfl, ⟨hcn, hs⟩ | ⟨hcn, hs⟩⟩
    · obtain rfl : n = 0 := by omega
      clear hh hk hbx hb6
      go_enter Tryz.func97, Tryz.ntmps97
      go_wp2_with fail
      go_quiet (fail)
      go_wp2
      go_ret2
      have : h = [] := List.eq_nil_of_length_eq_zero hhl
      subst this
      exact ⟨none, 0, 0, ko, kn, kc, [], key, rfl, hidden (bl_dr HBX.out _), hidden ⟨Sl.nil_any _ _ _ (fun _ => rfl), HK.out.drewN _, by simp, (by intro q hq; cases hq), (fun q hq => ⟨q, hq, rfl⟩), by simp, by simp⟩⟩
    · have HS := hidden hs
      clear hh hk hbx hb6 hs
      subst hcn
      obtain rfl : hn = hc := by omega
      go_enter Tryz.func97, Tryz.ntmps97
      go_wp2_with fail
      go_quiet (fail)
      go_wp2
      go_ret2
      exact ⟨some a, _, _, ko, kn, kc, h.drop hn, key, rfl, hidden (bl_dr HBX.out _), hidden ⟨by simpa using HS.out.drewN _, HK.out.drewN _, HD.out, (fun q hq => ⟨a, rfl, by injection hq with hq; rw [hq]⟩), (fun q hq => ⟨q, hq, rfl⟩), by simp, by simp⟩⟩
    · have HS := hidden hs
      have hcn2 : hc - n ≠ 0 := by omega
      have hcn3 : n < hc := by omega
      have hcn4 : (n : Int) < (hc : Int) := by omega
      clear hh hk hbx hb6 hs
      go_enter Tryz.func97, Tryz.ntmps97
      go_wp2_with fail
      go_quiet (fail)
      go_wp2
      go_ret2
      exact ⟨some (a.add n), _, _, ko, kn, kc, h.drop n, key, rfl, hidden (bl_dr HBX.out _), hidden ⟨by simpa using HS.out.drewN _, HK.out.drewN _, HD.out, (fun q hq => ⟨a, rfl, by injection hq with hq; rw [← hq, add_block]⟩), (fun q hq => ⟨q, hq, rfl⟩), by simp, by simp⟩⟩
  · have hleI : ¬ (n : Int) ≤ (hn : Int) := by omega
    obtain ⟨m, hm⟩ : ∃ m, n = hn + m := ⟨n - hn, by omega⟩
    subst hm
    have hmk : m ≤ kn := by omega
    have hmkI : (m : Int) ≤ (kn : Int) := by omega
    have hmc : m ≤ kc := by omega
    have hmcI : (m : Int) ≤ (kc : Int) := by omega
    have HD : Hid ([] ++ key.drop m = (h ++ key).drop (hn + m)) := hidden (by rw [← hhl, List.drop_append]; simp)
    have hw : IntKind.i64.wrap (((hn + m : Nat) : Int) - (hn : Int)) = (m : Int) := by rw [IntKind.wrap_i64]; omega
    have hw2 : ((hn : Int) + (m : Int)) - (hn : Int) = (m : Int) := by omega
    rcases sl_from HK.out m hmk with ⟨rfl, rfl, rfl⟩ | ⟨a, rfl, ⟨hcn, hs⟩ | ⟨hcn, hs⟩⟩
    · omega
    · have HS := hidden hs
      clear hh hk hbx hb6 hs
      subst hcn
      obtain rfl : kn = kc := by omega
      go_enter Tryz.func97, Tryz.ntmps97
      go_wp2_with fail
      go_quiet (fail)
      go_wp2
      go_ret2
      exact ⟨none, 0, 0, some a, _, _, [], key.drop kn, rfl, hidden (bl_dr HBX.out _), hidden ⟨Sl.nil_any _ _ _ (fun _ => rfl), by simpa using HS.out.drewN _, HD.out, (by intro q hq; cases hq), (fun q hq => ⟨a, rfl, by injection hq with hq; rw [hq]⟩), by simp, by simp⟩⟩
    · have HS := hidden hs
      have hcn2 : kc - m ≠ 0 := by omega
      have hcn3 : m < kc := by omega
      have hcn4 : (m : Int) < (kc : Int) := by omega
      clear hh hk hbx hb6 hs
      go_enter Tryz.func97, Tryz.ntmps97
      go_wp2_with fail
      go_quiet (fail)
      go_wp2
      go_ret2
      exact ⟨none, 0, 0, some (a.add m), _, _, [], key.drop m, rfl, hidden (bl_dr HBX.out _), hidden ⟨Sl.nil_any _ _ _ (fun _ => rfl), by simpa using HS.out.drewN _, HD.out, (by intro q hq; cases hq), (fun q hq => ⟨a, rfl, by injection hq with hq; rw [← hq, add_block]⟩), by simp, by simp⟩⟩
end Go.Proofs.YtpjgmepafekhkaaGreatDoor

/- The document's Fixed and Uint come to the same bytes. -/

namespace Go.Proofs.YtpjgmepafekhkaaGreatDoor
open Go.RowKit

set_option maxRecDepth 100000 in
set_option maxHeartbeats 400000 in
theorem refUint_any (n : Int) (w : World) (h0 : 0 ≤ n) (hn : n < 18446744073709551616) :
    Calls Tryz.prog 76 #[.int .u64 n] w fun e w' => ∃ v, e = .returned v ∧ OwnB w' w.heap.size v (uB n) ∧ Below w.heap.size w w' := by
  go_enter Tryz.func76, Tryz.ntmps76
  go_wp2_with fail
  go_loopw [0, 3] (fun x v wr => ∃ (m : Int) (acc : List Int), 0 ≤ m ∧ m < 18446744073709551616 ∧ x = .int .u64 m ∧ acc ++ uB m = uB n ∧ OwnB wr w.heap.size v acc ∧ Below w.heap.size w wr) (fun x _ _ => (intOf x).toNat)
  case atStart => exact ⟨n, [], h0, hn, rfl, rfl, OwnB.nil _ _, Below.refl _ _⟩
  case round =>
    obtain ⟨m, acc, hm0, hm, rfl, hac, hown, hb⟩ := hrel
    have HA : Hid (acc ++ uB m = uB n) := hac
    clear hac
    have hsz := hb.size
    have hlen : acc.length + 1 ≤ 10 := by
      have h1 := congrArg List.length HA.out
      have h2 := uB_length m
      have h3 := uB_length n
      simp only [List.length_append] at h1
      omega
    by_cases hlt : m < 128
    · go_wp2_with (at_builtin; refine app_bytes _ rfl _ _ rfl w.heap.size acc _ rfl (hown.alloc _) _ 1 1 [m] rfl rfl (one_cell _ _) (by omega) (by simp; omega) ?_)
      intro v' w2 hown2 hb2
      rw [← uB_small hlt, HA.out] at hown2
      have R : Below w.heap.size w w2 := (hb.alloc hsz _).trans hb2
      clear hb2
      go_wp2
      go_ret
      exact ⟨_, rfl, hown2, R⟩
    · have hgt : 127 < m := by omega
      go_wp2_with (at_builtin; refine app_bytes _ rfl _ _ rfl w.heap.size acc _ rfl (hown.alloc _) _ 1 1 [128 + m % 128] rfl rfl (one_cell _ _) (by omega) (by simp; omega) ?_)
      intro v' w2 hown2 hb2
      have R : Below w.heap.size w w2 := (hb.alloc hsz _).trans hb2
      rw [Int.add_comm 128 (m % 128)] at hown2
      clear hb2
      go_wp2
      go_roundw
      case rel => exact ⟨m / 128, acc ++ [m % 128 + 128], by omega, by omega, rfl, by rw [← HA.out, uB_step (by omega) hm]; simp, hown2, R⟩
      case measure => simp [intOf]; omega

set_option maxRecDepth 100000 in
theorem refFixed_no (n x : Int) (w : World) (h : x < 1 ∨ 8 < x) :
    Calls Tryz.prog 39 #[.int .u64 n, .int .i64 x] w fun e w' => e = .returned (.slice none 0 0) ∧ w' = w := by
  rcases h with h | h
  · go_enter Tryz.func39, Tryz.ntmps39
    go_wp2
    go_ret
    exact ⟨rfl, rfl⟩
  · have h' : ¬ x < 1 := by omega
    go_enter Tryz.func39, Tryz.ntmps39
    go_wp2
    go_ret
    exact ⟨rfl, rfl⟩

set_option maxRecDepth 100000 in
set_option maxHeartbeats 1000000 in
theorem refFixed_yes (n x : Int) (w : World) (h0 : 0 ≤ n) (hn : n < 18446744073709551616) (h1 : 1 ≤ x) (h2 : x ≤ 8) :
    Calls Tryz.prog 39 #[.int .u64 n, .int .i64 x] w fun e w' => ∃ v, e = .returned v ∧ OwnB w' w.heap.size v (fB x.toNat n) ∧ Below w.heap.size w w' := by
  obtain ⟨width, rfl⟩ := Int.eq_ofNat_of_zero_le (show 0 ≤ x by omega)
  rw [Int.toNat_natCast]
  go_enter Tryz.func39, Tryz.ntmps39
  go_wp2_with fail
  go_loopw [5, 6] (fun v i wr => ∃ (k : Nat) (acc : List Int), k ≤ width ∧ i = .int .i64 ((k : Int) - 1) ∧ acc ++ fB k n = fB width n ∧ OwnB wr w.heap.size v acc ∧ Below w.heap.size w wr) (fun _ i _ => (intOf i + 1).toNat)
  case atStart => exact ⟨width, [], Nat.le_refl _, rfl, rfl, OwnB.nil _ _, Below.refl _ _⟩
  case round =>
    obtain ⟨k, acc, hk, rfl, hac, hown, hb⟩ := hrel
    have HA := hidden hac
    clear hac
    have hsz := hb.size
    have hlen : acc.length ≤ 8 := by
      have h1 := congrArg List.length HA.out
      simp only [List.length_append, fB_length] at h1
      omega
    by_cases hk0 : k = 0
    · subst hk0
      have e : acc = fB width n := by have := HA.out; simpa [fB] using this
      rw [e] at hown
      clear e HA
      go_wp2
      go_ret
      exact ⟨_, rfl, hown, hb⟩
    · obtain ⟨j, rfl⟩ : ∃ j, k = j + 1 := ⟨k - 1, by omega⟩
      go_wp2_with fail
      go_loopw [7, 8] (fun x i w' => ∃ t : Nat, t ≤ j ∧ i = .int .i64 t ∧ x = .int .u64 (n / 256 ^ t) ∧ w' = wr) (fun _ i _ => j - (intOf i).toNat)
      case atStart => exact ⟨0, by omega, rfl, by simp, rfl⟩
      case round =>
        obtain ⟨t, ht, rfl, rfl, rfl⟩ := hrel
        have hpos : 0 ≤ n / 256 ^ t := Int.ediv_nonneg h0 (Int.le_of_lt (Int.pow_pos (by omega)))
        have hle : n / 256 ^ t ≤ n := Int.ediv_le_self _ h0
        have HP := hidden (pow256 n t)
        by_cases hlt : t < j
        · generalize n / 256 ^ t = y at *
          go_wp2
          go_roundw
          case rel => exact ⟨t + 1, by omega, by go_num, by rw [← HP.out], trivial⟩
          case measure => simp [intOf]; omega
        · obtain rfl : t = j := by omega
          generalize hy : n / 256 ^ t = y at *
          have HY := hidden hy
          clear hy
          go_wp2_with (at_builtin; refine app_bytes _ rfl _ _ rfl w.heap.size acc _ rfl (hown.alloc _) _ 1 1 [y % 256] rfl rfl (one_cell _ _) (by omega) (by simp; omega) ?_)
          intro v2 w2 hown2 hb2
          have R2 : Below w.heap.size w w2 := (hb.alloc hsz _).trans hb2
          clear hb2 hown
          go_wp2
          go_roundw
          case rel => exact ⟨t, acc ++ [y % 256], by omega, by go_num, by rw [← HA.out, fB, HY.out]; simp, hown2, R2⟩
          case measure => simp [intOf]
end Go.Proofs.YtpjgmepafekhkaaGreatDoor

/- The document's add and rest (layer 7). -/

namespace Go.Proofs.YtpjgmepafekhkaaGreatDoor
open Go.RowKit

set_option maxRecDepth 100000 in
/-- Bytes that were made later lie elsewhere. -/
theorem own_far {w w' : World} {B C : Nat} {v : Value} {l m : List Int} {ao : Option Addr} {n c : Nat} (h : OwnB w B v l) (k : OwnB w' C (.slice ao n c) m) (hz : w.heap.size ≤ C) : Far ao n v := by
  right
  intro p hp e
  have h1 : p.block < w.heap.size := (World.ownsRow.lt h p.block e).2
  rcases k.2 with ⟨e2, _⟩ | ⟨g, cap, cur, e2, hg, _⟩
  · injection e2 with e3
    rw [e3] at hp
    cases hp
  · injection e2 with e3
    rw [e3] at hp
    injection hp with hp
    subst hp
    simp only at h1
    omega
set_option maxRecDepth 100000 in
/-- Bytes that lay there ahead lie elsewhere. -/
theorem sl_far {w w' : World} {B : Nat} {v : Value} {l m : List Int} {ao : Option Addr} {n c : Nat} (hs : Sl w ao n c m) (h : OwnB w' B v l) (hz : w.heap.size ≤ B) : Far ao n v := by
  rcases hs.hat with h0 | ⟨b, off, rfl, hlt, _⟩
  · exact .inl h0
  · exact h.far fun p hp => by injection hp with hp; subst hp; exact Nat.lt_of_lt_of_le hlt hz

set_option maxRecDepth 100000 in
set_option maxHeartbeats 1000000 in
theorem radd_any (v : Value) (B : Nat) (l r : List Int) (ao : Option Addr) (n c : Nat) (w : World) (ho : OwnB w B v l) (hs : Sl w ao n c r) (hf : Far ao n v) (hl : l.length + n ≤ 140737488355328) (hB : B ≤ w.heap.size) :
    Calls Tryz.prog 40 #[v, .slice ao n c] w fun e w' => ∃ v', e = .returned v' ∧ Hid (OwnB w' B v' (l ++ r)) ∧ Hid (Gr w v w' v') := by
  have HS := hidden hs
  have HF := hidden hf
  have HO := hidden ho
  have hlen := hs.hlen
  have hn := hs.hroom
  clear hs hf ho
  go_enter Tryz.func40, Tryz.ntmps40
  go_wp2_with fail
  go_loopw [0, 5] (fun b i wr => ∃ k : Nat, k ≤ n ∧ i = .int .i64 k ∧ Hid (OwnB wr B b (l ++ r.take k)) ∧ Hid (Gr w v wr b)) (fun _ i _ => n - (intOf i).toNat)
  case atStart => exact ⟨0, by omega, rfl, by simpa using HO, hidden (Gr.refl _ _)⟩
  case round =>
    obtain ⟨k, hk, rfl, HOK, HG⟩ := hrel
    clear HO
    have hki : (k : Int) ≤ 140737488355328 := by omega
    by_cases hlt : k < n
    · have hltI : (k : Int) < (n : Int) := by omega
      have HSK := hidden (HS.out.gr HG.out HF.out)
      have hwf := HSK.out.wf.getD k
      rcases HSK.out.hat with h | ⟨b', off', rfl, hbb', hc'⟩
      · omega
      have hcj := hc' k hlt
      have hts := take_snoc r k (by omega)
      obtain ⟨y, hy⟩ : ∃ y, r.getD k 0 = y := ⟨_, rfl⟩
      rw [hy] at hcj hts hwf
      have HT := hidden hts
      have hBr : B ≤ wr.heap.size := Nat.le_trans hB HG.out.grow.size
      have hll : (l ++ r.take k).length + 1 ≤ 140737488355328 := by simp only [List.length_append, List.length_take]; omega
      have HLL := hidden hll
      clear hc' hts hy hll
      go_wp2_with (at_builtin; refine app_sl _ rfl _ _ rfl B (l ++ r.take k) [y] _ (some ⟨wr.heap.size, 0, none⟩) 1 1 rfl rfl (HOK.out.alloc _) (sl_one wr y hwf) HLL.out (by simp; omega) ?_; refine Hid.out ?_)
      apply hidden
      intro v2 w2 ho2 g2
      have HO2 : Hid (OwnB w2 B v2 (l ++ r.take (k + 1))) := hidden (by rw [HT.out]; simpa [List.append_assoc] using ho2)
      have HG2 := hidden ((HG.out.trans (Gr.alloc _ _ _)).trans g2)
      clear ho2 g2 HOK HG hcj HSK HT HLL
      go_wp2
      go_roundw
      case rel => exact ⟨k + 1, by omega, by go_num, HO2, HG2⟩
      case measure => simp [intOf]; omega
    · have e : r.take k = r := List.take_of_length_le (by omega)
      rw [e] at HOK
      go_wp2
      go_ret
      exact ⟨_, rfl, HOK, HG⟩
set_option maxRecDepth 100000 in
/-- The same, said of what was there ahead. -/
theorem radd_to (v : Value) (B : Nat) (l r : List Int) (ao : Option Addr) (n c : Nat) (w : World) (ho : OwnB w B v l) (hs : Sl w ao n c r) (hf : Far ao n v) (hl : l.length + n ≤ 140737488355328) (hB : B ≤ w.heap.size) :
    Calls Tryz.prog 40 #[v, .slice ao n c] w fun e w' => ∃ v', e = .returned v' ∧ Hid (OwnB w' B v' (l ++ r)) ∧ Hid (Below B w w') :=
  (radd_any v B l r ao n c w ho hs hf hl hB).mono fun e w' h => by
    obtain ⟨v', h1, h2, h3⟩ := h
    exact ⟨v', h1, h2, hidden (h3.out.below ho hB)⟩

set_option maxRecDepth 100000 in
theorem rrest_whole (k i : Int) (ao : Option Addr) (n c m : Nat) (w : World) (h : k = 3 ∧ i = 0) :
    Calls Tryz.prog 75 #[.int .i64 k, .int .i64 i, .slice ao n c, .int .i64 (m : Int)] w fun e w' => e = .returned (.slice ao n c) ∧ w' = w := by
  obtain ⟨rfl, rfl⟩ := h
  go_enter Tryz.func75, Tryz.ntmps75
  go_wp2
  go_ret
  exact ⟨rfl, rfl⟩

set_option maxRecDepth 100000 in
theorem rrest_cut (k i : Int) (ao : Option Addr) (n c m : Nat) (l : List Int) (w : World) (h : ¬ (k = 3 ∧ i = 0)) (hs : Sl w ao n c l) (hm : m ≤ n) :
    Calls Tryz.prog 75 #[.int .i64 k, .int .i64 i, .slice ao n c, .int .i64 (m : Int)] w fun e w' => (∃ a' c', e = .returned (.slice a' (n - m) c') ∧ Hid (Sl w a' (n - m) c' (l.drop m))) ∧ w' = w := by
  have hf := sl_from hs m hm
  have hc := hs.hcap
  have hr := hs.hroom
  have hll := hs.hlen
  have hmI : (m : Int) ≤ (n : Int) := by omega
  have hlc : m ≤ c := by omega
  have hlcI : (m : Int) ≤ (c : Int) := by omega
  have hlt : ¬ (n : Int) < (m : Int) := by omega
  have i1 : (m : Int) ≤ 140737488355328 := by omega
  clear hs
  by_cases h3 : k = 3
  · have hi : ¬ i = 0 := fun e => h ⟨h3, e⟩
    have hib : (i == 0) = false := by simpa using hi
    subst h3
    clear h hi
    rcases hf with ⟨rfl, rfl, rfl⟩ | ⟨a, rfl, ⟨e, hS⟩ | ⟨e, hS⟩⟩
    · obtain rfl : m = 0 := by omega
      have HE : Hid (Sl w none 0 0 (l.drop 0)) := hidden (by rw [show l.drop 0 = [] from List.eq_nil_of_length_eq_zero (by simpa using hll)]; exact Sl.nil_any _ _ _ (fun _ => rfl))
      go_enter Tryz.func75, Tryz.ntmps75
      go_wp2
      go_ret
      exact ⟨⟨_, _, rfl, HE⟩, rfl⟩
    · have HS := hidden hS
      subst e
      obtain rfl : n = c := by omega
      clear hS
      go_enter Tryz.func75, Tryz.ntmps75
      go_wp2
      go_ret
      exact ⟨⟨_, _, rfl, by simpa using HS⟩, rfl⟩
    · have HS := hidden hS
      have hcn2 : c - m ≠ 0 := by omega
      have hcn3 : m < c := by omega
      have hcn4 : (m : Int) < (c : Int) := by omega
      clear hS
      go_enter Tryz.func75, Tryz.ntmps75
      go_wp2
      go_ret
      exact ⟨⟨_, _, rfl, by simpa using HS⟩, rfl⟩
  · have hkb : (k == 3) = false := by simpa using h3
    clear h h3
    rcases hf with ⟨rfl, rfl, rfl⟩ | ⟨a, rfl, ⟨e, hS⟩ | ⟨e, hS⟩⟩
    · obtain rfl : m = 0 := by omega
      have HE : Hid (Sl w none 0 0 (l.drop 0)) := hidden (by rw [show l.drop 0 = [] from List.eq_nil_of_length_eq_zero (by simpa using hll)]; exact Sl.nil_any _ _ _ (fun _ => rfl))
      go_enter Tryz.func75, Tryz.ntmps75
      go_wp2
      go_ret
      exact ⟨⟨_, _, rfl, HE⟩, rfl⟩
    · have HS := hidden hS
      subst e
      obtain rfl : n = c := by omega
      clear hS
      go_enter Tryz.func75, Tryz.ntmps75
      go_wp2
      go_ret
      exact ⟨⟨_, _, rfl, by simpa using HS⟩, rfl⟩
    · have HS := hidden hS
      have hcn2 : c - m ≠ 0 := by omega
      have hcn3 : m < c := by omega
      have hcn4 : (m : Int) < (c : Int) := by omega
      clear hS
      go_enter Tryz.func75, Tryz.ntmps75
      go_wp2
      go_ret
      exact ⟨⟨_, _, rfl, by simpa using HS⟩, rfl⟩
end Go.Proofs.YtpjgmepafekhkaaGreatDoor
