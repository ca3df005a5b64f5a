import Derived.Test.YtfgffajgfgifhaaGreatDoorJ04
import Derived.Laws.AppendOwnNone
import Derived.Maps.AppendAt
import Derived.Deep.RegionLaw
import Derived.Laws.OwnMore
import Derived.Deep.RegionWith
import Derived.Laws.MakeOwn
namespace Go.Proofs.YtfgffajgfgifhaaGreatDoor
set_option maxRecDepth 100000
set_option maxHeartbeats 2000000
open Go.RowKit
structure Gr (w : World) (v : Value) (w' : World) (v' : Value) : Prop where
 grow : w.grownBy w' v.ownBlock
 own : v'.ownBlock = v.ownBlock ∨ ∃ k, v'.ownBlock = some k ∧ w.heap.size ≤ k
theorem Gr.ofBelow {w w' : World} (v : Value) (h : Below w.heap.size w w') : Gr w v w' v := ⟨⟨h.os, h.tape, h.output, h.size, fun k hk _ => h.block k hk⟩, .inl rfl⟩
theorem Gr.refl (w : World) (v : Value) : Gr w v w v := Gr.ofBelow v Br
theorem Gr.alloc (w : World) (v : Value) (o : Obj) : Gr w v (w.alloc o) v := Gr.ofBelow v (Br.alloc Lr o)
theorem Gr.trans {w w1 w2 : World} {v v1 v2 : Value} (a : Gr w v w1 v1) (b : Gr w1 v1 w2 v2) : Gr w v w2 v2 := by
 have hs := a.grow.size
 refine ⟨⟨b.grow.os.trans a.grow.os, b.grow.tape.trans a.grow.tape, b.grow.output.trans a.grow.output, zN hs b.grow.size, fun k hk hne => ?_⟩, ?_⟩
 ·refine (b.grow.block k (zO hk hs) ?_).trans (a.grow.block k hk hne)
  rcases a.own with h | ⟨k', h, hk'⟩
  ·rw [h]; exact hne
  ·rw [h]; intro e; cases e; omega
 ·rcases b.own with h | ⟨k', h, hk'⟩
  ·rcases a.own with h' | ⟨k'', h', hk''⟩
   ·exact .inl (h.trans h')
   ·exact .inr ⟨k'', h.trans h', hk''⟩
  ·exact .inr ⟨k', h, by omega⟩
theorem Gr.below {w w' : World} {v v' : Value} {B : Nat} {l : List Int} (h : Gr w v w' v') (hown : OwnB w B v l) (hB : B ≤ w.heap.size) : Below B w w' := zcn hown hB h.grow
def Far (ao : Option Addr) (n : Nat) (v : Value) : Prop := n = 0 ∨ ∀ p, ao = some p → v.ownBlock ≠ some p.block
theorem Sl.gr {w w' : World} {v v' : Value} {ao : Option Addr} {n cap : Nat} {l : List Int} (h : Sl w ao n cap l) (hg : Gr w v w' v') (hf : Far ao n v) : Sl w' ao n cap l := by
 refine ⟨h.hlen, h.hcap, h.hroom, h.wf, h.hnil, ?_⟩
 rcases h.hat with h0 | ⟨b, off, e, hlt, hc⟩
 ·exact .inl h0
 ·rcases hf with h0 | hf
  ·exact .inl h0
  ·refine .inr ⟨b, off, e, zO hlt hg.grow.size, fun i hi => ?_⟩
   rw [← hc i hi]
   exact World.cell?_of_block (hg.grow.block b hlt (fun e2 => hf _ e e2.symm))
theorem Far.gr {w w' : World} {v v' : Value} {ao : Option Addr} {n cap : Nat} {l : List Int} (hf : Far ao n v) (h : Sl w ao n cap l) (hg : Gr w v w' v') : Far ao n v' := by
 rcases hf with h0 | hf
 ·exact .inl h0
 ·rcases h.hat with h0 | ⟨b, off, rfl, hlt, hc⟩
  ·exact .inl h0
  ·right
   intro p hp
   injection hp with hp
   subst hp
   rcases hg.own with e | ⟨k, e, hk⟩
   ·rw [e]; exact hf _ rfl
   ·rw [e]; intro h; injection h with h; simp only at h; omega
theorem OwnB.low {w : World} {B C : Nat} {v : Value} {l : List Int} (h : OwnB w C v l) (hB : B ≤ C) : OwnB w B v l := by
 unfold OwnB at *
 rcases h.2 with h2 | ⟨g, cap, cur, e, hg, rest⟩
 ·exact ⟨h.1, .inl h2⟩
 ·exact ⟨h.1, .inr ⟨g, cap, cur, e, zN hB hg, rest⟩⟩
theorem OwnB.far {w : World} {B : Nat} {v : Value} {l : List Int} (h : OwnB w B v l) {ao : Option Addr} {n : Nat} (hb : ∀ p, ao = some p → p.block < B) : Far ao n v := by
 right
 intro p hp e
 have := hb p hp
 unfold OwnB at h
 have h2 := (h.lt p.block e).1
 omega
theorem zbo {ops : Array Oper} {rest : List Oper} {o : Oper} {a : Act} {Q : Exit → Act → World → Prop} (w : World) (hgd : o.guard = none) (s x : Operand)
  (ho : o.op = .call { callee := .builtin .append, args := #[s, x], argTypes := #[37, 37] }) (B : Nat) (l news : List Int) (v : Value) (ao : Option Addr) (n c : Nat) (hs : a.eval s = v) (hx : a.eval x = .slice ao n c)
  (hown : OwnB w B v l) (hsl : Sl w ao n c news) (hb : l.length + n ≤ 140737488355328) (hbase : B ≤ w.heap.size)
  (h : ∀ v' w', OwnB w' B v' (l ++ news) → Gr w v w' v' → wpList Tryz.prog ops Q rest (a.put o.dst v') w') : wpList Tryz.prog ops Q (o :: rest) a w := by
 obtain ⟨i0, hi, hz0, hz1, hz2⟩ := info_parts info5
 have hlen := hsl.hlen
 cases ao with
 | none =>
  have : n = 0 := by have := hsl.hnil rfl; have := hsl.hcap; omega
  subst this
  have hc0 := hsl.hnil rfl
  subst hc0
  obtain rfl : news = [] := List.eq_nil_of_length_eq_zero hlen
  exact wpList_append_own_none hgd s x 37 ho B 5 i0 1 Tryz.underlying37 hi v l.length (By l) hs hown hx (h v w (by simpa using hown) (Gr.refl _ _))
 | some ad =>
  refine wpList_append_own_at w hgd s x 37 ho B 5 i0 (.int .u8 0) 1 1 Tryz.underlying37 hi hz0 hz1 hz2 rfl (by decide) v l.length (By l) hs hown ad n c (By news) hx (by simp [By, hlen])
   (fun j u hu => by
    obtain ⟨h1, h2⟩ := getElem?_By news j u hu
    rw [h2]
    rcases hsl.hat with h0 | ⟨b, off, e, _, hc⟩
    ·omega
    ·injection e with e
     subst e
     rw [Addr.add_lit]
     exact hc j (by omega)) (By_one news) (by unfold maxLen; omega) (by omega) hbase ?_
  intro v' w' h1 h2 _ h4
  refine h v' w' ?_ ⟨h2, h4.imp id fun e => ⟨_, e, Lr⟩⟩
  unfold OwnB
  rw [zcv, zG, hlen]
  exact h1
theorem sl_one (w : World) (x : Int) (hx : 0 ≤ x ∧ x ≤ 255) : Sl (w.alloc (.cells #[.int .u8 x] 5)) (some ⟨w.heap.size, 0, none⟩) 1 1 [x] := by
 refine ⟨rfl, Lr, by omega, Wf.cons hx Wf.nil, (by intro h; cases h), .inr ⟨w.heap.size, 0, rfl, by simp, ?_⟩⟩
 intro i hi
 obtain rfl : i = 0 := by omega
 simp
theorem C5.box (w : World) (x0 x1 x2 x3 x4 : Value) : C5 (w.alloc (.cells #[x0, x1, x2, x3, x4] 39)) w.heap.size x0 x1 x2 x3 x4 := heap_alloc_last w _
def eV (ho : Option Addr) (hn hc : Nat) (ko : Option Addr) (kn kc : Nat) (kd : Int) (vo : Option Addr) (vn vc : Nat) (pg ct : Int) : Array Value := #[.slice ho hn hc, .slice ko kn kc, .int .i64 kd, .slice vo vn vc, .int .i64 pg, .int .i64 ct]
def E6 (w : World) (g : Nat) (x0 x1 x2 x3 x4 x5 : Value) : Prop := w.heap[g]? = some (.cells #[x0, x1, x2, x3, x4, x5] 78 (0, 0))
theorem E6.cells {w : World} {g : Nat} {x0 x1 x2 x3 x4 x5 : Value} (h : E6 w g x0 x1 x2 x3 x4 x5) :
  w.cell? ⟨g, 0, none⟩ = some x0 ∧ w.cell? ⟨g, 1, none⟩ = some x1 ∧ w.cell? ⟨g, 2, none⟩ = some x2 ∧ w.cell? ⟨g, 3, none⟩ = some x3 ∧ w.cell? ⟨g, 4, none⟩ = some x4 ∧ w.cell? ⟨g, 5, none⟩ = some x5 := by
 unfold E6 at h
 refine ⟨?_, ?_, ?_, ?_, ?_, ?_⟩
 ·rw [cell_of_row _ _ 0 _ _ _ h]; rfl
 ·rw [cell_of_row _ _ 1 _ _ _ h]; rfl
 ·rw [cell_of_row _ _ 2 _ _ _ h]; rfl
 ·rw [cell_of_row _ _ 3 _ _ _ h]; rfl
 ·rw [cell_of_row _ _ 4 _ _ _ h]; rfl
 ·rw [cell_of_row _ _ 5 _ _ _ h]; rfl
theorem E6.box (w : World) (x0 x1 x2 x3 x4 x5 : Value) : E6 (w.alloc (.cells #[x0, x1, x2, x3, x4, x5] 78)) w.heap.size x0 x1 x2 x3 x4 x5 := heap_alloc_last w _
theorem E6.gr {w w' : World} {v v' : Value} {g : Nat} {x0 x1 x2 x3 x4 x5 : Value} (h : E6 w g x0 x1 x2 x3 x4 x5) (hg : Gr w v w' v') (hv : v.ownBlock ≠ some g) : E6 w' g x0 x1 x2 x3 x4 x5 := (hg.grow.block g (zag h) (fun e => hv e.symm)).trans h
theorem OwnB.apart6 {w : World} {B : Nat} {v : Value} {l : List Int} (h : OwnB w B v l) {g : Nat} {x0 x1 x2 x3 x4 x5 : Value} (hc : E6 w g x0 x1 x2 x3 x4 x5) : v.ownBlock ≠ some g := by
 intro e
 unfold OwnB at h
 rcases h.2 with ⟨rfl, _⟩ | ⟨q, cap, cur, rfl, _, hh, _⟩
 ·cases e
 ·simp only [Value.ownBlock, Option.some.injEq] at e
  subst e
  unfold E6 at hc
  rw [hc] at hh
  simp at hh
theorem add_block (a : Addr) (n : Nat) : (a.add n).block = a.block := by simp only [Addr.add]; split <;> rfl
theorem sl_from {w : World} {ao : Option Addr} {n cap : Nat} {l : List Int} (h : Sl w ao n cap l) (k : Nat) (hk : k ≤ n) : (ao = none ∧ n = 0 ∧ cap = 0) ∨ ∃ a, ao = some a ∧ ((cap = k ∧ Sl w (some a) (n - k) (cap - k) (l.drop k)) ∨ (cap ≠ k ∧ Sl w (some (a.add k)) (n - k) (cap - k) (l.drop k))) := by
 have hc := h.hcap
 cases ao with
 | none =>
  have := h.hnil rfl
  exact .inl ⟨rfl, by omega, this⟩
 | some a =>
  refine .inr ⟨a, rfl, ?_⟩
  by_cases e : cap = k
  ·refine .inl ⟨e, ?_⟩
   have hn : n - k = 0 := by omega
   have hd : l.drop k = [] := List.drop_eq_nil_of_le (by have := h.hlen; omega)
   rw [hn, hd]
   exact Sl.nil_any _ _ _ (by intro h; cases h)
  ·refine .inr ⟨e, ?_⟩
   by_cases hz : n = k
   ·subst hz
    rw [Nat.sub_self, List.drop_eq_nil_of_le (by have := h.hlen; omega)]
    exact Sl.nil_any _ _ _ (by intro h; cases h)
   ·rcases h.hat with h0 | ⟨b, off, e2, hlt, hcl⟩
    ·omega
    ·injection e2 with e2
     subst e2
     have := h.piece k (n - k) (cap - k) (by omega) (by omega)
     rw [List.take_of_length_le (by rw [zK]; have := h.hlen; omega)] at this
     simpa [Addr.add_lit] using this
def RestTo (ho ko : Option Addr) (hn kn : Nat) (l : List Int) (w : World) (e : Ending) (w' : World) : Prop :=
 ∃ (a1 : Option Addr) (n1 c1 : Nat) (a2 : Option Addr) (n2 c2 : Nat) (l1 l2 : List Int), e = .returned (.tuple #[.slice a1 n1 c1, .slice a2 n2 c2]) ∧ Hid (Below w.heap.size w w') ∧ Hid (Sl w' a1 n1 c1 l1 ∧ Sl w' a2 n2 c2 l2 ∧ l1 ++ l2 = l ∧ (∀ q, a1 = some q → ∃ o, ho = some o ∧ q.block = o.block) ∧ (∀ q, a2 = some q → ∃ o, ko = some o ∧ q.block = o.block) ∧ n1 ≤ hn ∧ n2 ≤ kn)
theorem erest_any (ho : Option Addr) (hn hc : Nat) (ko : Option Addr) (kn kc : Nat) (kd : Int) (vo : Option Addr) (vn vc : Nat) (pg ct : Int) (h key : List Int) (n : Nat) (w : World) (hh : Sl w ho hn hc h) (hk : Sl w ko kn kc key) (hl : n ≤ hn + kn) :
  Calls Tryz.prog 134 #[.agg (eV ho hn hc ko kn kc kd vo vn vc pg ct), .int .i64 (n : Int)] w fun e w' => RestTo ho ko hn kn ((h ++ key).drop n) w e w' := by
 unfold eV
 have hhr := hh.hroom
 have hkr := hk.hroom
 have hhl := hh.hlen
 have hkl := hk.hlen
 have hhc := hh.hcap
 have hkc := hk.hcap
 obtain ⟨x, hx⟩ : ∃ x, w.alloc (.cells #[.slice ho hn hc, .slice ko kn kc, .int .i64 kd, .slice vo vn vc, .int .i64 pg, .int .i64 ct] 78) = x := ⟨_, rfl⟩
 have hbx : Below w.heap.size w x := by rw [← hx]; exact zac Br Lr _
 have hb6 : E6 x w.heap.size (.slice ho hn hc) (.slice ko kn kc) (.int .i64 kd) (.slice vo vn vc) (.int .i64 pg) (.int .i64 ct) := by rw [← hx]; exact E6.box w _ _ _ _ _ _
 obtain ⟨b0, b1, b2, b3, b4, b5⟩ := hb6.cells
 have HBX := zaa hbx
 have HK := zaa (hk.on Lr hbx)
 have HH := zaa (hh.on Lr hbx)
 have i1 : (n : Int) ≤ 281474976710656 := by omega
 have i2 : (hn : Int) ≤ 140737488355328 := by omega
 have i3 : (kn : Int) ≤ 140737488355328 := by omega
 by_cases hle : n ≤ hn
 ·have hleI : (n : Int) ≤ (hn : Int) := by omega
  have hlc : n ≤ hc := by omega
  have hlcI : (n : Int) ≤ (hc : Int) := by omega
  have HD : Hid (h.drop n ++ key = (h ++ key).drop n) := zaa (by rw [List.drop_append_of_le_length (by omega)])
  rcases sl_from HH.out n hle with ⟨rfl, rfl, rfl⟩ | ⟨a, rfl, ⟨hcn, hs⟩ | ⟨hcn, hs⟩⟩
  ·obtain rfl : n = 0 := by omega
   clear hh hk hbx hb6
   go_enter Tryz.func134, Tryz.ntmps134
   go_wp2_with fail
   go_quiet (fail)
   go_wp2
   go_ret2
   have : h = [] := List.eq_nil_of_length_eq_zero hhl
   subst this
   exact ⟨none, 0, 0, ko, kn, kc, [], key, rfl, zaa (zad HBX.out _), zaa ⟨Sl.nil_any _ _ _ (fun _ => rfl), HK.out.drewN _, by simp, (by intro q hq; cases hq), (fun q hq => ⟨q, hq, rfl⟩), by simp, by simp⟩⟩
  ·have HS := zaa hs
   clear hh hk hbx hb6 hs
   subst hcn
   obtain rfl : hn = hc := by omega
   go_enter Tryz.func134, Tryz.ntmps134
   go_wp2_with fail
   go_quiet (fail)
   go_wp2
   go_ret2
   exact ⟨some a, _, _, ko, kn, kc, h.drop hn, key, rfl, zaa (zad HBX.out _), zaa ⟨by simpa using HS.out.drewN _, HK.out.drewN _, HD.out, (fun q hq => ⟨a, rfl, by injection hq with hq; rw [hq]⟩), (fun q hq => ⟨q, hq, rfl⟩), by simp, by simp⟩⟩
  ·have HS := zaa hs
   have hcn2 : hc - n ≠ 0 := by omega
   have hcn3 : n < hc := by omega
   have hcn4 : (n : Int) < (hc : Int) := by omega
   clear hh hk hbx hb6 hs
   go_enter Tryz.func134, Tryz.ntmps134
   go_wp2_with fail
   go_quiet (fail)
   go_wp2
   go_ret2
   exact ⟨some (a.add n), _, _, ko, kn, kc, h.drop n, key, rfl, zaa (zad HBX.out _), zaa ⟨by simpa using HS.out.drewN _, HK.out.drewN _, HD.out, (fun q hq => ⟨a, rfl, by injection hq with hq; rw [← hq, add_block]⟩), (fun q hq => ⟨q, hq, rfl⟩), by simp, by simp⟩⟩
 ·have hleI : ¬ (n : Int) ≤ (hn : Int) := by omega
  obtain ⟨m, hm⟩ : ∃ m, n = hn + m := ⟨n - hn, by omega⟩
  subst hm
  have hmk : m ≤ kn := by omega
  have hmkI : (m : Int) ≤ (kn : Int) := by omega
  have hmc : m ≤ kc := by omega
  have hmcI : (m : Int) ≤ (kc : Int) := by omega
  have HD : Hid ([] ++ key.drop m = (h ++ key).drop (hn + m)) := zaa (by rw [← hhl, List.drop_append]; simp)
  have hw : IntKind.i64.wrap (((hn + m : Nat) : Int) - (hn : Int)) = (m : Int) := by rw [IntKind.wrap_i64]; omega
  have hw2 : ((hn : Int) + (m : Int)) - (hn : Int) = (m : Int) := by omega
  rcases sl_from HK.out m hmk with ⟨rfl, rfl, rfl⟩ | ⟨a, rfl, ⟨hcn, hs⟩ | ⟨hcn, hs⟩⟩
  ·omega
  ·have HS := zaa hs
   clear hh hk hbx hb6 hs
   subst hcn
   obtain rfl : kn = kc := by omega
   go_enter Tryz.func134, Tryz.ntmps134
   go_wp2_with fail
   go_quiet (fail)
   go_wp2
   go_ret2
   exact ⟨none, 0, 0, some a, _, _, [], key.drop kn, rfl, zaa (zad HBX.out _), zaa ⟨Sl.nil_any _ _ _ (fun _ => rfl), by simpa using HS.out.drewN _, HD.out, (by intro q hq; cases hq), (fun q hq => ⟨a, rfl, by injection hq with hq; rw [hq]⟩), by simp, by simp⟩⟩
  ·have HS := zaa hs
   have hcn2 : kc - m ≠ 0 := by omega
   have hcn3 : m < kc := by omega
   have hcn4 : (m : Int) < (kc : Int) := by omega
   clear hh hk hbx hb6 hs
   go_enter Tryz.func134, Tryz.ntmps134
   go_wp2_with fail
   go_quiet (fail)
   go_wp2
   go_ret2
   exact ⟨none, 0, 0, some (a.add m), _, _, [], key.drop m, rfl, zaa (zad HBX.out _), zaa ⟨Sl.nil_any _ _ _ (fun _ => rfl), by simpa using HS.out.drewN _, HD.out, (by intro q hq; cases hq), (fun q hq => ⟨a, rfl, by injection hq with hq; rw [← hq, add_block]⟩), by simp, by simp⟩⟩
theorem zcy {a b c : World} {row : Option Nat} (h : a.grownBy b row) (k : b.grownBy c row) : a.grownBy c row :=
 ⟨k.os.trans h.os, k.tape.trans h.tape, k.output.trans h.output, zN h.size k.size, fun i hi hne => (k.block i (zO hi h.size) hne).trans (h.block i hi hne)⟩
theorem lent_any (ao : Option Addr) (n cap : Nat) (l : List Int) (w : World) (hs : Sl w ao n cap l) :
  Calls Tryz.prog 68 #[.slice ao n cap] w fun e w' => e = .returned (.slice (some ⟨w.heap.size, 0, none⟩) n (n + 3)) ∧ OwnB w' w.heap.size (.slice (some ⟨w.heap.size, 0, none⟩) (n + 3) (n + 3)) (l ++ [71, 72, 73]) ∧ Below w.heap.size w w' := by
 obtain ⟨i0, hi, hz0, hz1, hz2⟩ := info_parts info5
 obtain ⟨hlen, hcap, hroom, hwf, hnil, hat⟩ := hs
 have hsz : (Tryz.prog.info? 5).map (·.size) = some 1 := by rw [hi]; simp [hz1]
 go_enter Tryz.func68, Tryz.ntmps68
 go_wp2_with (at_make; refine wpList_make_full _ rfl _ _ 37 rfl w.heap.size 5 i0 (.int .u8 0) 1 Tryz.underlying37 hi hz0 hz1 .i64 .i64 (n + 3) (n + 3) (n + 3) rfl rfl rfl rfl (by rw [hz2]; omega) (by unfold maxLen; omega) Lr ?_)
 intro w1 hown1 hg1
 have hb1 : Below w.heap.size w w1 := Br.grown hg1 Lr (fun k hk => by cases hk)
 clear hg1
 have hcur : w1.heap[w.heap.size]? = some (.cells (List.replicate (n + 3) (Value.int .u8 0)).toArray 5 (0, 0)) := by
  rcases hown1.2 with ⟨h, _⟩ | ⟨g, c, cur, h, _, hh, _, _, hs, ht⟩
  ·cases h
  ·cases h
   rw [hh]
   congr 2
   apply Array.toList_inj.1
   rw [toList_madeCells_one] at ht
   simp only [Nat.mul_one] at hs ht
   rw [List.take_of_length_le (by simp [hs])] at ht
   simpa using ht
 clear hown1
 obtain ⟨cur, hce⟩ : ∃ cur, List.replicate (n + 3) (Value.int .u8 0) = cur := ⟨_, rfl⟩
 rw [hce] at hcur
 have hcl : cur.length = n + 3 := by rw [← hce]; simp
 have HCE := zaa hce
 have HC := zaa hcur
 clear hcur hce
 have hpos : 0 < (By l).length → some (⟨w.heap.size, 0, none⟩ : Addr) = some ⟨w.heap.size, 0, none⟩ ∧ ∃ ad, ao = some ad ∧ ∀ j v, (By l)[j]? = some v → w1.cell? (ad.add j) = some v := by
  intro h
  rw [zbl] at h
  rcases hat with h0 | ⟨b, off, rfl, hbb, hc⟩
  ·omega
  ·refine ⟨rfl, _, rfl, fun j v hv => ?_⟩
   obtain ⟨h1, rfl⟩ := getElem?_By l j v hv
   rw [Addr.add_lit]
   exact (hb1.cell (p := ⟨b, off + j, none⟩) hbb).trans (hc j (by omega))
 have HP := zaa hpos
 clear hpos
 go_wp2_with (refine wpList_copy_splice rfl _ _ 37 37 rfl 5 Tryz.underlying37 hsz _ _ (n + 3) (n + 3) n cap rfl rfl w.heap.size 0 cur 5 HC.out (By l) (by rw [zbl, hlen]; exact (Nat.min_eq_left (by omega)).symm) HP.out (by rw [zbl]; omega) (By_one l) w.heap.size w hb1 Lr ?_)
 intro w2 hh hb2
 have ho : OwnB w2 w.heap.size (.slice (some ⟨w.heap.size, 0, none⟩) (n + 3) (n + 3)) (l ++ [0, 0, 0]) := by
  have h' := hh.out
  rw [show splice cur 0 (By l) = By (l ++ [0, 0, 0]) from by
   rw [← HCE.out]
   simp only [splice, zbl, hlen, List.take_zero, List.nil_append, Nat.zero_add, zcv, List.drop_replicate, show n + 3 - n = 3 by omega]
   rfl] at h'
  have := zdj (l := l ++ [0, 0, 0]) h' Lr (by unfold maxLen; simp; omega)
  simpa [hlen] using this
 have hl0 : (l ++ [0, 0, 0]).length = n + 3 := by simp [hlen]
 have hl1 : ((l ++ [0, 0, 0]).set n 71).length = n + 3 := by simp [hlen]
 have hl2 : (((l ++ [0, 0, 0]).set n 71).set (n + 1) 72).length = n + 3 := by simp [hlen]
 have f0 := own_free ho hl0 n
 have c0 := zbm ho hl0 (show n < n + 3 by omega)
 have o1 := own_set (x := 71) ho hl0 (show n < n + 3 by omega)
 have f1 := own_free o1 hl1 (n + 1)
 have c1 := zbm o1 hl1 (show n + 1 < n + 3 by omega)
 have o2 := own_set (x := 72) o1 hl1 (show n + 1 < n + 3 by omega)
 have f2 := own_free o2 hl2 (n + 2)
 have c2 := zbm o2 hl2 (show n + 2 < n + 3 by omega)
 have o3 := own_set (x := 73) o2 hl2 (show n + 2 < n + 3 by omega)
 have e3 : (((l ++ [0, 0, 0]).set n 71).set (n + 1) 72).set (n + 2) 73 = l ++ [71, 72, 73] := by
  subst hlen
  simp [List.set_append_right]
 rw [e3] at o3
 have HO3 := zaa o3
 have HB3 := zaa (((hb2.setCell (p := ⟨w.heap.size, n, none⟩) Lr (.int .u8 71)).setCell (p := ⟨w.heap.size, n + 1, none⟩) Lr (.int .u8 72)).setCell (p := ⟨w.heap.size, n + 2, none⟩) Lr (.int .u8 73))
 obtain ⟨y0, c0⟩ : ∃ y, w2.cell? ⟨w.heap.size, n, none⟩ = some y := ⟨_, c0⟩
 obtain ⟨y1, c1⟩ : ∃ y, (w2.setCell ⟨w.heap.size, n, none⟩ (.int .u8 71)).cell? ⟨w.heap.size, n + 1, none⟩ = some y := ⟨_, c1⟩
 obtain ⟨y2, c2⟩ : ∃ y, ((w2.setCell ⟨w.heap.size, n, none⟩ (.int .u8 71)).setCell ⟨w.heap.size, n + 1, none⟩ (.int .u8 72)).cell? ⟨w.heap.size, n + 2, none⟩ = some y := ⟨_, c2⟩
 clear hh ho o1 o2 o3 e3 hl0 hl1 hl2 hb2 HP HC HCE
 go_wp2
 go_ret
 exact ⟨rfl, HO3.out, HB3.out⟩
theorem own_head {w : World} {B g n cap m : Nat} {l : List Int} (h : OwnB w B (.slice (some ⟨g, 0, none⟩) n cap) l) (hw : Wf l) (hn : l.length = n) (hm : m ≤ n) (hr : n ≤ 140737488355328) (c : Nat) (hc : m ≤ c) : Sl w (some ⟨g, 0, none⟩) m c (l.take m) := by
 have hlt : g < w.heap.size := (World.ownsRow.lt h g rfl).2
 refine ⟨by simp; omega, hc, by omega, hw.take m, (by intro h; cases h), .inr ⟨g, 0, rfl, hlt, fun i hi => ?_⟩⟩
 rw [Nat.zero_add, zbm h hn (by omega)]
 simp [List.getD, hi]
theorem asLent_any (g B n : Nat) (bo : Option Addr) (d : Nat) (l : List Int) (w : World) (ho : OwnB w B (.slice (some ⟨g, 0, none⟩) (n + 3) (n + 3)) (l ++ [71, 72, 73])) (hb : Sl w bo n d l) (hbig : n + 3 ≤ 140737488355328) :
  Calls Tryz.prog 73 #[.slice (some ⟨g, 0, none⟩) n (n + 3), .slice bo n d] w fun e w' => e = .returned (.bool true) ∧ w.grownBy w' (some g) := by
 have hl : (l ++ [71, 72, 73]).length = n + 3 := by simp [hb.hlen]
 have hroom := hb.hroom
 have hwf := hb.wf
 have hlen := hb.hlen
 have hW : Wf (l ++ [71, 72, 73]) := hwf.append (by unfold Wf; decide)
 have c0 : w.cell? ⟨g, n, none⟩ = some (.int .u8 71) := by
  rw [zbm ho hl (show n < n + 3 by omega)]
  subst hlen
  simp [List.getD]
 have c1 : w.cell? ⟨g, n + 1, none⟩ = some (.int .u8 72) := by
  rw [zbm ho hl (show n + 1 < n + 3 by omega)]
  subst hlen
  simp [List.getD]
 have c2 : w.cell? ⟨g, n + 2, none⟩ = some (.int .u8 73) := by
  rw [zbm ho hl (show n + 2 < n + 3 by omega)]
  subst hlen
  simp [List.getD]
 have ht : (l ++ [71, 72, 73]).take n = l := by subst hlen; simp
 have k1 : ∀ q, (convert 37 9 (.slice (some ⟨g, 0, none⟩) n (n + 3))).run Tryz.prog (w.drewN q) = .ok (.string (strOfNums l)) (w.drewN q) := fun q => by
  have h := own_head ho hW hl (show n ≤ n + 3 by omega) hbig (n + 3) (by omega)
  rw [ht] at h
  exact zav (h.drewN q)
 have k2 : ∀ q, (convert 37 9 (.slice bo n d)).run Tryz.prog (w.drewN q) = .ok (.string (strOfNums l)) (w.drewN q) := fun q => zav (hb.drewN q)
 have HO := zaa ho
 have HLN := zaa hl
 clear ho hb hW hl hwf ht
 go_enter Tryz.func73, Tryz.ntmps73
 go_wp2_with fail
 go_quiet (fail)
 go_wp2_with fail
 clear c0 c1 c2 k1 k2
 go_loopw [8] (fun i wr => ∃ (k : Nat) (l' : List Int), k ≤ n + 3 ∧ i = .int .i64 k ∧ l'.length = n + 3 ∧ OwnB wr B (.slice (some ⟨g, 0, none⟩) (n + 3) (n + 3)) l' ∧ w.grownBy wr (some g)) (fun i _ => n + 3 - (intOf i).toNat)
 case atStart => exact ⟨0, l ++ [71, 72, 73], by omega, rfl, HLN.out, HO.out, ⟨rfl, rfl, rfl, Lr, fun _ _ _ => rfl⟩⟩
 case round =>
  obtain ⟨k, l', hk, rfl, hl', hown, hgr⟩ := hrel
  clear HO HLN
  by_cases hlt : k < n + 3
  ·have hce := zbm hown hl' hlt
   have hfr := own_free hown hl' k
   have ho2 := own_set (x := 97) hown hl' hlt
   have hst : wr.grownBy (wr.setCell ⟨g, k, none⟩ (.int .u8 97)) (some g) := by
    have h' : wr.ownsRow B 5 1 (.slice (some ⟨g, 0, none⟩) (n + 3) (n + 3)) (n + 3) (By l') := by have := hown; unfold OwnB at this; rw [hl'] at this; exact this
    exact (World.ownsRow.stored h' k (.int .u8 97)).2
   have hg2 := zcy hgr hst
   clear hst hgr hown
   go_wp2
   go_roundw
   case rel => exact ⟨k + 1, l'.set k 97, by omega, by go_num, by simp [hl'], ho2, hg2⟩
   case measure => simp [intOf]; omega
  ·go_wp2
   go_ret
   exact ⟨rfl, hgr⟩
theorem infoSl : (Tryz.prog.info? 37).map (fun i => (i.zero, i.size, i.bytes)) = some (some (.slice none 0 0), 1, 24) := by kernel_rfl
def OwnV (w : World) (B : Nat) (v : Value) (xs : List Value) : Prop := w.ownsRow B 37 1 v xs.length xs
theorem OwnV.nil (w : World) (B : Nat) : OwnV w B (.slice none 0 0) [] := World.ownsRow_nil w B 37 1
theorem OwnV.on {w w' : World} {B C : Nat} {v : Value} {xs : List Value} (h : OwnV w B v xs) (hC : w.heap.size ≤ C) (hb : Below C w w') : OwnV w' B v xs := by
 refine World.ownsRow.kept (row := none) h ⟨hb.os, hb.tape, hb.output, hb.size, fun k hk _ => hb.block k (by omega)⟩ ?_
 cases hv : v.ownBlock with
 | none => exact .inl rfl
 | some k => exact .inr (by simp)
theorem app_val {ops : Array Oper} {rest : List Oper} {o : Oper} {a : Act} {Q : Exit → Act → World → Prop} (w : World) (hgd : o.guard = none) (s x : Operand)
  (ho : o.op = .call { callee := .builtin .append, args := #[s, x], argTypes := #[32, 32] }) (B : Nat) (xs : List Value) (v : Value) (hs : a.eval s = v)
  (hown : OwnV w B v xs) (g n c : Nat) (hx : a.eval x = .slice (some ⟨g, 0, none⟩) 1 1) (ao : Option Addr) (hcell : w.cell? ⟨g, 0, none⟩ = some (.slice ao n c)) (hb : xs.length ≤ 1000000) (hbase : B ≤ w.heap.size)
  (h : ∀ v' w', OwnV w' B v' (xs ++ [.slice ao n c]) → w.grownBy w' v.ownBlock → wpList Tryz.prog ops Q rest (a.put o.dst v') w') : wpList Tryz.prog ops Q (o :: rest) a w := by
 obtain ⟨i0, hi, hz0, hz1, hz2⟩ := info_parts infoSl
 refine wpList_append_own w hgd s x 32 ho B 37 i0 (.slice none 0 0) 1 24 Tryz.underlying32 hi hz0 hz1 hz2 rfl (by decide) v xs.length xs hs hown ⟨g, 0, none⟩ 1 1 [.slice ao n c] hx rfl
  (fun j u hu => by
   have hj : j = 0 := by
    have := (zH.1 hu).1
    simpa using this
   subst hj
   simp at hu
   subst hu
   simpa [Addr.add] using hcell) (fun u hu => by simp at hu; subst hu; rfl) (by unfold maxLen; omega) (by omega) hbase ?_
 intro v' w' h1 h2 _
 refine h v' w' ?_ h2
 unfold OwnV
 simpa using h1
theorem run_app_sl (w : World) (ty : TypeId) (B : Nat) (l news : List Int) (v : Value) (ao : Option Addr) (n c : Nat) (hown : OwnB w B v l) (hsl : Sl w ao n c news) (hb : l.length + n ≤ 140737488355328) (hbase : B ≤ w.heap.size) :
  ∃ v' w', (Builtin.append_ #[37, 37] ty #[v, .slice ao n c]).run Tryz.prog w = .ok v' w' ∧ OwnB w' B v' (l ++ news) ∧ Gr w v w' v' := by
 obtain ⟨i0, hi, hz0, hz1, hz2⟩ := info_parts info5
 have hlen := hsl.hlen
 cases ao with
 | none =>
  have : n = 0 := by have := hsl.hnil rfl; have := hsl.hcap; omega
  subst this
  have hc0 := hsl.hnil rfl
  subst hc0
  obtain rfl : news = [] := List.eq_nil_of_length_eq_zero hlen
  exact ⟨v, w, run_append_owned_none (P := Tryz.prog) (w := w) B 37 ty 5 i0 1 Tryz.underlying37 hi v l.length (By l) hown, by simpa using hown, Gr.refl _ _⟩
 | some ad =>
  obtain ⟨v', w', hr, h1, h2, _, h4⟩ := run_append_own_at (P := Tryz.prog) w B 37 ty 5 i0 (.int .u8 0) 1 1 Tryz.underlying37 hi hz0 hz1 hz2 rfl (by decide) v l.length (By l) hown ad n c (By news) (by simp [By, hlen])
   (fun j u hu => by
    obtain ⟨h1, h2⟩ := getElem?_By news j u hu
    rw [h2]
    rcases hsl.hat with h0 | ⟨b, off, e, _, hc⟩
    ·omega
    ·injection e with e
     subst e
     rw [Addr.add_lit]
     exact hc j (by omega)) (By_one news) (by unfold maxLen; omega) (by omega) hbase
  refine ⟨v', w', hr, ?_, ⟨h2, h4.imp id fun e => ⟨_, e, Lr⟩⟩⟩
  unfold OwnB
  rw [zcv, zG, hlen]
  exact h1
theorem step_sl {ops : Array Oper} {o : Oper} {a : Act} {w : World} {K : Act → World → Prop} {Q : Exit → Act → World → Prop} {E : Prop} (hgd : o.guard = none) (s x : Operand)
  (ho : o.op = .call { callee := .builtin .append, args := #[s, x], argTypes := #[37, 37] }) (B : Nat) (l news : List Int) (v : Value) (ao : Option Addr) (n c : Nat) (hs : a.eval s = v) (hx : a.eval x = .slice ao n c)
  (hown : OwnB w B v l) (hsl : Sl w ao n c news) (hb : l.length + n ≤ 140737488355328) (hbase : B ≤ w.heap.size)
  (h : ∀ v' w', OwnB w' B v' (l ++ news) → Gr w v w' v' → K (a.put o.dst v') w') :
  if Region.wanted o (yielded ops a.tmps) = true then Oper.wp Tryz.prog o a w K Q else E := by
 have hw : Region.wanted o (yielded ops a.tmps) = true := by simp [Region.wanted, hgd]
 rw [if_pos hw]
 obtain ⟨v', w', hr, h1, h2⟩ := run_app_sl w o.type B l news v ao n c hown hsl hb hbase
 have hfin := h v' w' h1 h2
 unfold Oper.wp
 simp [execOp, ho, resolve, invoke, builtin, hs, hx, hr, Result.andThen]
 exact hfin
theorem withKey_any (v : Value) (B : Nat) (l : List Int) (ho : Option Addr) (hn hc : Nat) (ko : Option Addr) (kn kc : Nat) (kd : Int) (vo : Option Addr) (vn vc : Nat) (pg ct : Int) (h key : List Int) (w : World) (hown : OwnB w B v l) (hB : B ≤ w.heap.size)
  (hh : Sl w ho hn hc h) (hk : Sl w ko kn kc key) (fh : Far ho hn v) (fk : Far ko kn v) (hl : l.length + hn + kn ≤ 140737488355328) :
  Calls Tryz.prog 138 #[.agg (eV ho hn hc ko kn kc kd vo vn vc pg ct), v] w fun e w' => ∃ v', e = .returned v' ∧ Hid (OwnB w' B v' (l ++ h ++ key)) ∧ Hid (Gr w v w' v') := by
 unfold eV
 obtain ⟨x, hx⟩ : ∃ x, w.alloc (.cells #[.slice ho hn hc, .slice ko kn kc, .int .i64 kd, .slice vo vn vc, .int .i64 pg, .int .i64 ct] 78) = x := ⟨_, rfl⟩
 have hbx : Below w.heap.size w x := by rw [← hx]; exact zac Br Lr _
 have hb6 : E6 x w.heap.size (.slice ho hn hc) (.slice ko kn kc) (.int .i64 kd) (.slice vo vn vc) (.int .i64 pg) (.int .i64 ct) := by rw [← hx]; exact E6.box w _ _ _ _ _ _
 obtain ⟨s, hs⟩ : ∃ s, w.heap.size = s := ⟨_, rfl⟩
 rw [hs] at hb6
 have HB6 := zaa hb6
 obtain ⟨b0, b1, b2, b3, b4, b5⟩ := hb6.cells
 have HO : Hid (OwnB x B v l) := zaa (hown.on Lr hbx)
 have HK : Hid (Sl x ko kn kc key) := zaa (hk.on Lr hbx)
 have HH : Hid (Sl x ho hn hc h) := zaa (hh.on Lr hbx)
 have HG : Hid (Gr w v x v) := zaa (Gr.ofBelow v hbx)
 have hBx : B ≤ x.heap.size := zN hB hbx.size
 have HFH := zaa fh
 have HFK := zaa fk
 have HAP := zaa (HO.out.apart6 hb6)
 have hlh : h.length = hn := hh.hlen
 clear hown hh hk fh fk hbx hb6
 go_enter Tryz.func138, Tryz.ntmps138
 go_wp2_with fail
 go_region_law (first
  | (refine step_sl rfl (.tmp 5) (.tmp 7) rfl B l h v ho hn hc rfl rfl (by first | exact HO.out | exact HO.out.on Lr Br.drew | exact HO.out.on Lr (zad Br _)) (by first | exact HH.out | exact HH.out.on Lr Br.drew | exact HH.out.drewN _) (by omega) (by first | exact hBx | simpa using hBx) ?_; intro v1 w1 ho1 g1; have hg1 : Gr x v w1 v1 := (Gr.ofBelow v (by first | exact Br | exact Br.drew | exact zad Br _)).trans g1; have HO1 := zaa ho1; have HK1 := zaa (HK.out.gr hg1 HFK.out); have HG1 := zaa (HG.out.trans hg1); have hB1 : B ≤ w1.heap.size := zN hBx hg1.grow.size; obtain ⟨y0, y1, y2, y3, y4, y5⟩ := (HB6.out.gr hg1 HAP.out).cells; clear ho1 g1 hg1)
  | (refine step_sl rfl (.tmp 8) (.tmp 11) rfl B (l ++ h) key v1 ko kn kc rfl rfl (by first | exact HO1.out | exact HO1.out.on Lr Br.drew | exact HO1.out.on Lr (zad Br _)) (by first | exact HK1.out | exact HK1.out.on Lr Br.drew | exact HK1.out.drewN _) (by rw [zG]; omega) (by first | exact hB1 | simpa using hB1) ?_; intro v2 w2 ho2 g2; have HO2 := zaa ho2; have HG2 := zaa (HG1.out.trans ((Gr.ofBelow v1 (by first | exact Br | exact Br.drew | exact zad Br _)).trans g2)); clear ho2 g2))
 all_goals
  go_wp2
  go_ret
  exact ⟨v2, rfl, HO2, HG2⟩
theorem made_run (N : Nat) (hN : N ≤ 281474976710656) (u : World) : (Instr.makeSlice 37 (.int .i64 0) (.int .i64 (N : Int))).run Tryz.prog u = .ok (.slice (some ⟨u.heap.size, 0, none⟩) 0 N) (u.alloc (.cells (madeCells #[.int .u8 0] N) 5)) := by
 obtain ⟨i0, hi, hz0, hz1, hz2⟩ := info_parts info5
 have hr := run_make (P := Tryz.prog) u 37 5 i0 (.int .u8 0) Tryz.underlying37 hi hz0 .i64 .i64 0 N (Int.le_refl _) (by omega) (by rw [hz2]; omega) (by omega)
 simp only [Int.toNat_zero, Int.toNat_natCast, hz1, Nat.mul_one] at hr
 exact hr
theorem own_made (N B : Nat) (hN : N ≤ 281474976710656) (u : World) (hB : B ≤ u.heap.size) : OwnB (u.alloc (.cells (madeCells #[.int .u8 0] N) 5)) B (.slice (some ⟨u.heap.size, 0, none⟩) 0 N) [] :=
 World.ownsRow_made u _ N hB (by unfold maxLen; omega) (by rw [Nat.mul_one]; exact size_madeCells _ _)
theorem keyq_any (ho : Option Addr) (hn hc : Nat) (ko : Option Addr) (kn kc : Nat) (kd : Int) (vo : Option Addr) (vn vc : Nat) (pg ct : Int) (h key : List Int) (w : World)
  (hh : Sl w ho hn hc h) (hk : Sl w ko kn kc key) (hl : hn + kn ≤ 140737488355328) :
  Calls Tryz.prog 102 #[.agg (eV ho hn hc ko kn kc kd vo vn vc pg ct)] w fun e w' => ∃ v', e = .returned v' ∧ Hid (OwnB w' w.heap.size v' (h ++ key)) ∧ Hid (Below w.heap.size w w') := by
 unfold eV
 obtain ⟨x, hx⟩ : ∃ x, w.alloc (.cells #[.slice ho hn hc, .slice ko kn kc, .int .i64 kd, .slice vo vn vc, .int .i64 pg, .int .i64 ct] 78) = x := ⟨_, rfl⟩
 have hbx : Below w.heap.size w x := by rw [← hx]; exact zac Br Lr _
 have hb6 : E6 x w.heap.size (.slice ho hn hc) (.slice ko kn kc) (.int .i64 kd) (.slice vo vn vc) (.int .i64 pg) (.int .i64 ct) := by rw [← hx]; exact E6.box w _ _ _ _ _ _
 obtain ⟨s, hs⟩ : ∃ s, w.heap.size = s := ⟨_, rfl⟩
 have hsx : s < x.heap.size := by rw [← hs]; exact zag hb6
 rw [hs] at hb6
 obtain ⟨b0, b1, b2, b3, b4, b5⟩ := hb6.cells
 obtain ⟨N, hN⟩ : ∃ N, hn + kn = N := ⟨_, rfl⟩
 have hNI : (hn : Int) + (kn : Int) = (N : Int) := by omega
 have hNb : N ≤ 140737488355328 := by omega
 have i1 : (hn : Int) ≤ 140737488355328 := by omega
 have i2 : (kn : Int) ≤ 140737488355328 := by omega
 have hwN : IntKind.i64.wrap (N : Int) = (N : Int) := by rw [IntKind.wrap_i64]; omega
 have hmk := made_run N (by omega)
 have HW : Hid (∀ u g, Below x.heap.size x u → OwnB u x.heap.size (.slice (some ⟨g, 0, none⟩) 0 N) [] → Calls Tryz.prog 138 #[.agg #[.slice ho hn hc, .slice ko kn kc, .int .i64 kd, .slice vo vn vc, .int .i64 pg, .int .i64 ct], .slice (some ⟨g, 0, none⟩) 0 N] u fun e w' => ∃ v', e = .returned v' ∧ Hid (OwnB w' w.heap.size v' (h ++ key)) ∧ Hid (Below w.heap.size w w')) := by
  refine zaa fun u g hu hown => ?_
  have hg : x.heap.size ≤ g := (World.ownsRow.lt hown g rfl).1
  have far : ∀ (ao : Option Addr) (n cap : Nat) (l : List Int), Sl x ao n cap l → Far ao n (.slice (some ⟨g, 0, none⟩) 0 N) := by
   intro ao n cap l hsl
   rcases hsl.hat with h0 | ⟨b, off, e, hlt, _⟩
   ·exact .inl h0
   ·refine .inr fun p hp e2 => ?_
    rw [e] at hp
    injection hp with hp
    subst hp
    injection e2 with e2
    have e3 : g = b := e2
    omega
  have hhx := hh.on Lr hbx
  have hkx := hk.on Lr hbx
  refine (withKey_any _ x.heap.size [] ho hn hc ko kn kc kd vo vn vc pg ct h key u hown hu.size (hhx.on Lr hu) (hkx.on Lr hu) (far _ _ _ _ hhx) (far _ _ _ _ hkx) (by simp; omega)).mono ?_
  rintro e w' ⟨v', rfl, HO, HG⟩
  refine ⟨v', rfl, zaa ?_, zaa (hbx.trans ((hu.trans (HG.out.below hown hu.size)).mono hbx.size))⟩
  have := HO.out.low (B := w.heap.size) hbx.size
  simpa using this
 clear hh hk hbx hb6 hN
 go_enter Tryz.func102, Tryz.ntmps102
 go_wp2_with fail
 go_region_with (first | (go_at_call 138; refine (HW.out _ _ ?_ ?_).mono ?_; (repeat (first | exact Br | apply Below.drew | apply below_drewN | refine zac ?_ Lr _)); (first | exact own_made N _ (by omega) _ (by simp) | exact (own_made N _ (by omega) _ (by simp)).on Lr Br.drew | exact (own_made N _ (by omega) _ (by simp)).on Lr (zad Br _)); rintro e w1 ⟨v1, rfl, HO1, HB1⟩))
 all_goals
  go_wp2
  go_ret
  exact ⟨v1, rfl, HO1, HB1⟩
end Go.Proofs.YtfgffajgfgifhaaGreatDoor
