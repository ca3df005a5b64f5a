/- packed.entry: rest, withKey, key. -/
import Derived.Test.YtaicpmlcklkjgaaGreatDoorJ14
import Derived.Test.YtaicpmlcklkjgaaGreatDoorJ25
import Derived.Laws.AppendOwnNone
import Derived.Maps.AppendAt
namespace Go.Proofs.YtaicpmlcklkjgaaGreatDoor
open Go.RowKit

/-- An entry's value. -/
def eV (ho : Option Addr) (hn hc : Nat) (ko : Option Addr) (kn kc : Nat) (kd : Int) (vo : Option Addr) (vn vc : Nat) (pg ct : Int) : Array Value := #[.slice ho hn hc, .slice ko kn kc, .int .i64 kd, .slice vo vn vc, .int .i64 pg, .int .i64 ct]
/-- An entry in a block of its own. -/
def E6 (w : World) (g : Nat) (x0 x1 x2 x3 x4 x5 : Value) : Prop := w.heap[g]? = some (.cells #[x0, x1, x2, x3, x4, x5] 159 (0, 0))
set_option maxRecDepth 100000 in
theorem E6.cells {w : World} {g : Nat} {x0 x1 x2 x3 x4 x5 : Value} (h : E6 w g x0 x1 x2 x3 x4 x5) :
    w.cell? ⟨g, 0, none⟩ = some x0 ∧ w.cell? ⟨g, 1, none⟩ = some x1 ∧ w.cell? ⟨g, 2, none⟩ = some x2 ∧ w.cell? ⟨g, 3, none⟩ = some x3 ∧ w.cell? ⟨g, 4, none⟩ = some x4 ∧ w.cell? ⟨g, 5, none⟩ = some x5 := by
  unfold E6 at h
  refine ⟨?_, ?_, ?_, ?_, ?_, ?_⟩
  · rw [cell_of_row _ _ 0 _ _ _ h]; rfl
  · rw [cell_of_row _ _ 1 _ _ _ h]; rfl
  · rw [cell_of_row _ _ 2 _ _ _ h]; rfl
  · rw [cell_of_row _ _ 3 _ _ _ h]; rfl
  · rw [cell_of_row _ _ 4 _ _ _ h]; rfl
  · rw [cell_of_row _ _ 5 _ _ _ h]; rfl
set_option maxRecDepth 100000 in
theorem E6.box (w : World) (x0 x1 x2 x3 x4 x5 : Value) : E6 (w.alloc (.cells #[x0, x1, x2, x3, x4, x5] 159)) w.heap.size x0 x1 x2 x3 x4 x5 := heap_alloc_last w _
set_option maxRecDepth 100000 in
theorem E6.gr {w w' : World} {v v' : Value} {g : Nat} {x0 x1 x2 x3 x4 x5 : Value} (h : E6 w g x0 x1 x2 x3 x4 x5) (hg : Gr w v w' v') (hv : v.ownBlock ≠ some g) : E6 w' g x0 x1 x2 x3 x4 x5 := (hg.grow.block g (lt_some h) (fun e => hv e.symm)).trans h
set_option maxRecDepth 100000 in
theorem OwnB.apart6 {w : World} {B : Nat} {v : Value} {l : List Int} (h : OwnB w B v l) {g : Nat} {x0 x1 x2 x3 x4 x5 : Value} (hc : E6 w g x0 x1 x2 x3 x4 x5) : v.ownBlock ≠ some g := by
  intro e
  unfold OwnB at h
  rcases h.2 with ⟨rfl, _⟩ | ⟨q, cap, cur, rfl, _, hh, _⟩
  · cases e
  · simp only [Value.ownBlock, Option.some.injEq] at e
    subst e
    unfold E6 at hc
    rw [hc] at hh
    simp at hh
set_option maxRecDepth 100000 in
theorem add_block (a : Addr) (n : Nat) : (a.add n).block = a.block := by simp only [Addr.add]; split <;> rfl
set_option maxRecDepth 100000 in
/-- A slice's end: behind its first n bytes, as the language cuts it. -/
theorem sl_from {w : World} {ao : Option Addr} {n cap : Nat} {l : List Int} (h : Sl w ao n cap l) (k : Nat) (hk : k ≤ n) : (ao = none ∧ n = 0 ∧ cap = 0) ∨ ∃ a, ao = some a ∧ ((cap = k ∧ Sl w (some a) (n - k) (cap - k) (l.drop k)) ∨ (cap ≠ k ∧ Sl w (some (a.add k)) (n - k) (cap - k) (l.drop k))) := by
  have hc := h.hcap
  cases ao with
  | none =>
    have := h.hnil rfl
    exact .inl ⟨rfl, by omega, this⟩
  | some a =>
    refine .inr ⟨a, rfl, ?_⟩
    by_cases e : cap = k
    · refine .inl ⟨e, ?_⟩
      have hn : n - k = 0 := by omega
      have hd : l.drop k = [] := List.drop_eq_nil_of_le (by have := h.hlen; omega)
      rw [hn, hd]
      exact Sl.nil_any _ _ _ (by intro h; cases h)
    · refine .inr ⟨e, ?_⟩
      by_cases hz : n = k
      · subst hz
        rw [Nat.sub_self, List.drop_eq_nil_of_le (by have := h.hlen; omega)]
        exact Sl.nil_any _ _ _ (by intro h; cases h)
      · rcases h.hat with h0 | ⟨b, off, e2, hlt, hcl⟩
        · omega
        · injection e2 with e2
          subst e2
          have := h.piece k (n - k) (cap - k) (by omega) (by omega)
          rw [List.take_of_length_le (by rw [List.length_drop]; have := h.hlen; omega)] at this
          simpa [Addr.add_lit] using this
/-- What rest comes to. -/
def RestTo (ho ko : Option Addr) (hn kn : Nat) (l : List Int) (w : World) (e : Ending) (w' : World) : Prop :=
  ∃ (a1 : Option Addr) (n1 c1 : Nat) (a2 : Option Addr) (n2 c2 : Nat) (l1 l2 : List Int), e = .returned (.tuple #[.slice a1 n1 c1, .slice a2 n2 c2]) ∧ Hid (Below w.heap.size w w') ∧ Hid (Sl w' a1 n1 c1 l1 ∧ Sl w' a2 n2 c2 l2 ∧ l1 ++ l2 = l ∧ (∀ q, a1 = some q → ∃ o, ho = some o ∧ q.block = o.block) ∧ (∀ q, a2 = some q → ∃ o, ko = some o ∧ q.block = o.block) ∧ n1 ≤ hn ∧ n2 ≤ kn)
set_option maxRecDepth 100000 in
set_option maxHeartbeats 1000000 in
theorem erest_any (ho : Option Addr) (hn hc : Nat) (ko : Option Addr) (kn kc : Nat) (kd : Int) (vo : Option Addr) (vn vc : Nat) (pg ct : Int) (h key : List Int) (n : Nat) (w : World) (hh : Sl w ho hn hc h) (hk : Sl w ko kn kc key) (hl : n ≤ hn + kn) :
    Calls Tryz.prog 227 #[.agg (eV ho hn hc ko kn kc kd vo vn vc pg ct), .int .i64 (n : Int)] w fun e w' => RestTo ho ko hn kn ((h ++ key).drop n) w e w' := by
  unfold eV
  have hhr := hh.hroom
  have hkr := hk.hroom
  have hhl := hh.hlen
  have hkl := hk.hlen
  have hhc := hh.hcap
  have hkc := hk.hcap
  obtain ⟨x, hx⟩ : ∃ x, w.alloc (.cells #[.slice ho hn hc, .slice ko kn kc, .int .i64 kd, .slice vo vn vc, .int .i64 pg, .int .i64 ct] 159) = x := ⟨_, rfl⟩
  have hbx : Below w.heap.size w x := by rw [← hx]; exact bl_al (Below.refl _ _) (Nat.le_refl _) _
  have hb6 : E6 x w.heap.size (.slice ho hn hc) (.slice ko kn kc) (.int .i64 kd) (.slice vo vn vc) (.int .i64 pg) (.int .i64 ct) := by rw [← hx]; exact E6.box w _ _ _ _ _ _
  obtain ⟨b0, b1, b2, b3, b4, b5⟩ := hb6.cells
  have HBX := hidden hbx
  have HK := hidden (hk.on (Nat.le_refl _) hbx)
  have HH := hidden (hh.on (Nat.le_refl _) hbx)
  have i1 : (n : Int) ≤ 281474976710656 := by omega
  have i2 : (hn : Int) ≤ 140737488355328 := by omega
  have i3 : (kn : Int) ≤ 140737488355328 := by omega
  by_cases hle : n ≤ hn
  · have hleI : (n : Int) ≤ (hn : Int) := by omega
    have hlc : n ≤ hc := by omega
    have hlcI : (n : Int) ≤ (hc : Int) := by omega
    have HD : Hid (h.drop n ++ key = (h ++ key).drop n) := hidden (by rw [List.drop_append_of_le_length (by omega)])
    rcases sl_from HH.out n hle with ⟨rfl, rfl, rfl⟩ | ⟨a, rfl, ⟨hcn, hs⟩ | ⟨hcn, hs⟩⟩
    · obtain rfl : n = 0 := by omega
      clear hh hk hbx hb6
      go_enter Tryz.func227, Tryz.ntmps227
      go_wp2_with fail
      go_quiet (fail)
      go_wp2
      go_ret2
      have : h = [] := List.eq_nil_of_length_eq_zero hhl
      subst this
      exact ⟨none, 0, 0, ko, kn, kc, [], key, rfl, hidden (bl_dr HBX.out _), hidden ⟨Sl.nil_any _ _ _ (fun _ => rfl), HK.out.drewN _, by simp, (by intro q hq; cases hq), (fun q hq => ⟨q, hq, rfl⟩), by simp, by simp⟩⟩
    · have HS := hidden hs
      clear hh hk hbx hb6 hs
      subst hcn
      obtain rfl : hn = hc := by omega
      go_enter Tryz.func227, Tryz.ntmps227
      go_wp2_with fail
      go_quiet (fail)
      go_wp2
      go_ret2
      exact ⟨some a, _, _, ko, kn, kc, h.drop hn, key, rfl, hidden (bl_dr HBX.out _), hidden ⟨by simpa using HS.out.drewN _, HK.out.drewN _, HD.out, (fun q hq => ⟨a, rfl, by injection hq with hq; rw [hq]⟩), (fun q hq => ⟨q, hq, rfl⟩), by simp, by simp⟩⟩
    · have HS := hidden hs
      have hcn2 : hc - n ≠ 0 := by omega
      have hcn3 : n < hc := by omega
      have hcn4 : (n : Int) < (hc : Int) := by omega
      clear hh hk hbx hb6 hs
      go_enter Tryz.func227, Tryz.ntmps227
      go_wp2_with fail
      go_quiet (fail)
      go_wp2
      go_ret2
      exact ⟨some (a.add n), _, _, ko, kn, kc, h.drop n, key, rfl, hidden (bl_dr HBX.out _), hidden ⟨by simpa using HS.out.drewN _, HK.out.drewN _, HD.out, (fun q hq => ⟨a, rfl, by injection hq with hq; rw [← hq, add_block]⟩), (fun q hq => ⟨q, hq, rfl⟩), by simp, by simp⟩⟩
  · have hleI : ¬ (n : Int) ≤ (hn : Int) := by omega
    obtain ⟨m, hm⟩ : ∃ m, n = hn + m := ⟨n - hn, by omega⟩
    subst hm
    have hmk : m ≤ kn := by omega
    have hmkI : (m : Int) ≤ (kn : Int) := by omega
    have hmc : m ≤ kc := by omega
    have hmcI : (m : Int) ≤ (kc : Int) := by omega
    have HD : Hid ([] ++ key.drop m = (h ++ key).drop (hn + m)) := hidden (by rw [← hhl, List.drop_append]; simp)
    have hw : IntKind.i64.wrap (((hn + m : Nat) : Int) - (hn : Int)) = (m : Int) := by rw [IntKind.wrap_i64]; omega
    have hw2 : ((hn : Int) + (m : Int)) - (hn : Int) = (m : Int) := by omega
    rcases sl_from HK.out m hmk with ⟨rfl, rfl, rfl⟩ | ⟨a, rfl, ⟨hcn, hs⟩ | ⟨hcn, hs⟩⟩
    · omega
    · have HS := hidden hs
      clear hh hk hbx hb6 hs
      subst hcn
      obtain rfl : kn = kc := by omega
      go_enter Tryz.func227, Tryz.ntmps227
      go_wp2_with fail
      go_quiet (fail)
      go_wp2
      go_ret2
      exact ⟨none, 0, 0, some a, _, _, [], key.drop kn, rfl, hidden (bl_dr HBX.out _), hidden ⟨Sl.nil_any _ _ _ (fun _ => rfl), by simpa using HS.out.drewN _, HD.out, (by intro q hq; cases hq), (fun q hq => ⟨a, rfl, by injection hq with hq; rw [hq]⟩), by simp, by simp⟩⟩
    · have HS := hidden hs
      have hcn2 : kc - m ≠ 0 := by omega
      have hcn3 : m < kc := by omega
      have hcn4 : (m : Int) < (kc : Int) := by omega
      clear hh hk hbx hb6 hs
      go_enter Tryz.func227, Tryz.ntmps227
      go_wp2_with fail
      go_quiet (fail)
      go_wp2
      go_ret2
      exact ⟨none, 0, 0, some (a.add m), _, _, [], key.drop m, rfl, hidden (bl_dr HBX.out _), hidden ⟨Sl.nil_any _ _ _ (fun _ => rfl), by simpa using HS.out.drewN _, HD.out, (by intro q hq; cases hq), (fun q hq => ⟨a, rfl, by injection hq with hq; rw [← hq, add_block]⟩), by simp, by simp⟩⟩
end Go.Proofs.YtaicpmlcklkjgaaGreatDoor
