import Derived.Test.YtlhkinlgolcpaaaGreatDoorJ10
import Derived.Lib.SlBytesConst
import Derived.Test.YtlhkinlgolcpaaaGreatDoorJ02
import Derived.Test.YtlhkinlgolcpaaaGreatDoorJ01
import Derived.Test.YtlhkinlgolcpaaaGreatDoorJ00
import Derived.Test.YtlhkinlgolcpaaaGreatDoorJ05
import Derived.Test.YtlhkinlgolcpaaaGreatDoorJ04
import Derived.Test.YtlhkinlgolcpaaaGreatDoorJ03
import Derived.Laws.AppendOwnNone
import Derived.Maps.AppendAt
import Derived.Deep.RegionLaw
import Derived.Laws.OwnMore
import Derived.Deep.RegionWith
import Derived.Laws.MakeOwn
namespace Go.Proofs.YtlhkinlgolcpaaaGreatDoor
set_option maxRecDepth 100000
open Go.RowKit
theorem pw512 : pw 512 := by decide
theorem isKd2 : isKd 2 := by decide
theorem conv6H (w : World) (C : Array Value) (n c H : Nat) (hH : w.heap.size = H) : (convert 25 25 (.slice (some ⟨H, 0, none⟩) n c)).run Tryz.prog (w.alloc (.cells C 5)) = .ok (.slice (some ⟨H, 0, none⟩) n c) (w.alloc (.cells C 5 (C.size, C.size + 1))) := by
 subst hH
 exact Lib.run_convert_bytes_const (P := Tryz.prog) w 25 5 C n c Tryz.underlying25 Tryz.underlying5
end Go.Proofs.YtlhkinlgolcpaaaGreatDoor

namespace Go.Proofs.YtlhkinlgolcpaaaGreatDoor
set_option maxRecDepth 100000
open Go.RowKit
theorem sl_lit (u : World) (C : List Int) (n : Nat) (fr : Nat × Nat) (g : Nat) (h : u.heap[g]? = some (.cells (By C).toArray 5 fr)) (hn : C.length = n) (hw : Wf C) (hb : n ≤ 65536) : Sl u (some ⟨g, 0, none⟩) n n C := by
 refine ⟨hn, Nat.le_refl _, by omega, hw, (by intro h; cases h), .inr ⟨g, 0, rfl, lt_some h, fun i hi => ?_⟩⟩
 rw [Nat.zero_add, cell_of_row _ _ i _ _ _ h]
 simp [By, List.getD, List.getElem?_eq_getElem (show i < C.length by omega)]
end Go.Proofs.YtlhkinlgolcpaaaGreatDoor

namespace Go.Proofs.YtlhkinlgolcpaaaGreatDoor
set_option maxRecDepth 100000
open Go.RowKit
def Rs (cs : List Cl) : Prop := cs.Pairwise fun c d => kl c.key d.key
theorem chk_of {k p : Int} : ∀ (pr : Option (List Int)) (ds : List Cl), (∀ c ∈ ds, mayP k p c) → Rs ds → (∀ c ∈ ds, ahead pr c.key) → chk k p pr ds = 0
 | _, [], _, _, _ => rfl
 | pr, c :: r, h1, h2, h3 => by
  unfold Rs at h2
  rw [List.pairwise_cons] at h2
  rw [chk, if_pos (h1 c (by simp)), if_pos (h3 c (by simp))]
  exact chk_of _ r (fun d hd => h1 d (by simp [hd])) h2.2 (fun d hd => h2.1 d hd)
def Row5 (w : World) : List Value → List Cl → Prop
 | vs, [] => vs = []
 | vs, c :: r => ∃ ka kc va vc t, vs = .slice ka c.key.length kc :: .int .i64 c.kd :: .slice va c.val.length vc :: .int .i64 c.pg :: .int .i64 c.ct :: t ∧ Sl w ka c.key.length kc c.key ∧ Sl w va c.val.length vc c.val ∧ Row5 w t r
theorem Row5.append {w : World} {us : List Value} {ds : List Cl} (g : Row5 w us ds) : ∀ {vs : List Value} {cs : List Cl}, Row5 w vs cs → Row5 w (vs ++ us) (cs ++ ds)
 | vs, [], h => by
  unfold Row5 at h
  subst h
  exact g
 | vs, c :: r, h => by
  obtain ⟨ka, kc, va, vc, t, rfl, h1, h2, h3⟩ := h
  exact ⟨ka, kc, va, vc, t ++ us, rfl, h1, h2, Row5.append g h3⟩
theorem Row5.len {w : World} : ∀ {vs : List Value} {cs : List Cl}, Row5 w vs cs → vs.length = cs.length * 5
 | vs, [], h => by
  unfold Row5 at h
  subst h
  rfl
 | vs, c :: r, h => by
  obtain ⟨ka, kc, va, vc, t, rfl, h1, h2, h3⟩ := h
  have := h3.len
  simp only [List.length_cons]
  omega
theorem Row5.one {w : World} : ∀ {vs : List Value} {cs : List Cl}, Row5 w vs cs → ∀ u ∈ vs, u.oneCell' = true
 | vs, [], h, u, hu => by
  unfold Row5 at h
  subst h
  cases hu
 | vs, c :: r, h, u, hu => by
  obtain ⟨ka, kc, va, vc, t, rfl, h1, h2, h3⟩ := h
  simp only [List.mem_cons] at hu
  rcases hu with rfl | rfl | rfl | rfl | rfl | hu
  ·rfl
  ·rfl
  ·rfl
  ·rfl
  ·rfl
  ·exact h3.one u hu
theorem Row5.cat {w w' : World} {b : Nat} (hB : Below w.heap.size w w') : ∀ {vs : List Value} {cs : List Cl} (off : Nat), Row5 w vs cs → (∀ j u, vs[j]? = some u → w'.cell? ⟨b, off + j, none⟩ = some u) → ∀ i c, cs[i]? = some c → CAt w' b (off + i * 5) c
 | vs, [], off, h, hc, i, c, hi => by simp at hi
 | vs, d :: r, off, h, hc, 0, c, hi => by
  obtain ⟨ka, kc, va, vc, t, rfl, h1, h2, h3⟩ := h
  simp at hi
  subst hi
  exact ⟨ka, kc, va, vc, hc 0 _ rfl, hc 1 _ rfl, hc 2 _ rfl, hc 3 _ rfl, hc 4 _ rfl, h1.on (Nat.le_refl _) hB, h2.on (Nat.le_refl _) hB⟩
 | vs, d :: r, off, h, hc, i + 1, c, hi => by
  obtain ⟨ka, kc, va, vc, t, rfl, h1, h2, h3⟩ := h
  have := Row5.cat hB (off + 5) h3 (fun j u hu => by
   have := hc (j + 5) u (by simpa using hu)
   rwa [show off + (j + 5) = off + 5 + j by omega] at this) i c (by simpa using hi)
  rwa [show off + 5 + i * 5 = off + (i + 1) * 5 by omega] at this
theorem row5_of {w : World} {b : Nat} : ∀ (cs : List Cl) (off : Nat), (∀ i c, cs[i]? = some c → CAt w b (off + i * 5) c) → ∃ vs, Row5 w vs cs ∧ ∀ j u, vs[j]? = some u → w.cell? ⟨b, off + j, none⟩ = some u
 | [], off, _ => ⟨[], rfl, fun j u hu => by simp at hu⟩
 | c :: r, off, h => by
  obtain ⟨t, h1, h2⟩ := row5_of r (off + 5) fun i d hd => by
   have := h (i + 1) d (by simpa using hd)
   rwa [show off + (i + 1) * 5 = off + 5 + i * 5 by omega] at this
  obtain ⟨ka, kc, va, vc, c0, c1, c2, c3, c4, hk, hv⟩ := h 0 c rfl
  refine ⟨_, ⟨ka, kc, va, vc, t, rfl, hk, hv, h1⟩, fun j u hu => ?_⟩
  match j, hu with
  | 0, hu => simp at hu; subst hu; simpa using c0
  | 1, hu => simp at hu; subst hu; simpa using c1
  | 2, hu => simp at hu; subst hu; simpa using c2
  | 3, hu => simp at hu; subst hu; simpa using c3
  | 4, hu => simp at hu; subst hu; simpa using c4
  | j + 5, hu =>
   have := h2 j u (by simpa using hu)
   rwa [show off + 5 + j = off + (j + 5) by omega] at this
end Go.Proofs.YtlhkinlgolcpaaaGreatDoor

namespace Go.Proofs.YtlhkinlgolcpaaaGreatDoor
set_option maxRecDepth 100000
def qB (m : Nat) (c : Cl) : List Int := [c.kd % 256] ++ (uB ((c.key.length - m : Nat) : Int) ++ (c.key.drop m ++ (if c.kd = 1 then uB c.val.length ++ c.val else uB (c.pg % 18446744073709551616) ++ uB (c.ct % 18446744073709551616))))
def tL (n : Nat) : Nat := (uB (n : Int)).length + n
def qtk (m : Nat) (c : Cl) : Nat := 3 + tL (c.key.length - m) + (if c.kd = 1 then tL c.val.length else (uB (c.pg % 18446744073709551616)).length + (uB (c.ct % 18446744073709551616)).length)
theorem qB_length (m : Nat) (c : Cl) : (qB m c).length + 2 = qtk m c := by
 unfold qB qtk tL
 split <;> simp only [List.length_append, List.length_cons, List.length_nil, List.length_drop] <;> omega
theorem qB_wf {m : Nat} {c : Cl} (h : c.Wf) (h1 : c.key.length < 18446744073709551616) (h2 : c.val.length < 18446744073709551616) : Wf (qB m c) := by
 unfold qB
 refine Wf.append (Wf.cons (by omega) Wf.nil) (Wf.append (uB_wf (by omega) (by omega)) (Wf.append (h.1.drop m) ?_))
 split
 ·exact Wf.append (uB_wf (by omega) (by omega)) h.2
 ·exact Wf.append (uB_wf (by omega) (by omega)) (uB_wf (by omega) (by omega))
end Go.Proofs.YtlhkinlgolcpaaaGreatDoor

namespace Go.Proofs.YtlhkinlgolcpaaaGreatDoor
set_option maxRecDepth 100000
open Go.RowKit
set_option maxHeartbeats 400000 in
theorem uint_any (n : Int) (w : World) (h0 : 0 ≤ n) (hn : n < 18446744073709551616) :
  Calls Tryz.prog 156 #[.int .u64 n] w fun e w' => ∃ v, e = .returned v ∧ OwnB w' w.heap.size v (uB n) ∧ Below w.heap.size w w' := by
 obtain ⟨i0, hi, hz0, hz1, hz2⟩ := info_parts info5
 go_enter Tryz.func156, Tryz.ntmps156
 go_wp2_with (at_make; refine wpList_make_own _ rfl _ _ 25 rfl w.heap.size 5 i0 (.int .u8 0) 1 Tryz.underlying25 hi hz0 hz1 .i64 .i64 10 10 rfl rfl rfl (by rw [hz2]; omega) (by decide) (Nat.le_refl _) ?_)
 intro w1 hown1 hg1
 have hb1 : Below w.heap.size w w1 := (Below.refl _ _).grown hg1 (Nat.le_refl _) (fun k hk => by cases hk)
 go_wp2_with fail
 go_loopw [0, 3] (fun x v wr => ∃ (m : Int) (acc : List Int), 0 ≤ m ∧ m < 18446744073709551616 ∧ x = .int .u64 m ∧ acc ++ uB m = uB n ∧ OwnB wr w.heap.size v acc ∧ Below w.heap.size w wr) (fun x _ _ => (intOf x).toNat)
 case atStart => exact ⟨n, [], h0, hn, rfl, rfl, hown1, hb1⟩
 case round =>
  obtain ⟨m, acc, hm0, hm, rfl, hac, hown, hb⟩ := hrel
  have Hac := hac
  have HA : Hid (acc ++ uB m = uB n) := hac
  clear hac Hac
  have hsz := hb.size
  have hlen : acc.length + 1 ≤ 10 := by
   have h1 := congrArg List.length HA.out
   have h2 := uB_length m
   have h3 := uB_length n
   simp only [List.length_append] at h1
   omega
  have hor := or128 m
  by_cases hlt : m < 128
  ·go_wp2_with (at_builtin; refine app_bytes _ rfl _ _ rfl w.heap.size acc _ rfl (hown.alloc _) _ 1 1 [m] rfl rfl (one_cell _ _) (by omega) (by simp; omega) ?_)
   intro v' w2 hown2 hb2
   rw [← uB_small hlt, HA.out] at hown2
   have R : Below w.heap.size w w2 := (hb.alloc hsz _).trans hb2
   clear hb2
   go_wp2
   go_ret
   exact ⟨_, rfl, hown2, R⟩
  ·go_wp2_with (at_builtin; refine app_bytes _ rfl _ _ rfl w.heap.size acc _ rfl (hown.alloc _) _ 1 1 [m % 128 + 128] rfl rfl (one_cell _ _) (by omega) (by simp; omega) ?_)
   intro v' w2 hown2 hb2
   have R : Below w.heap.size w w2 := (hb.alloc hsz _).trans hb2
   clear hb2
   go_wp2
   go_roundw
   case rel => exact ⟨m / 128, acc ++ [m % 128 + 128], by omega, by omega, rfl, by rw [← HA.out, uB_step (by omega) hm]; simp, hown2, R⟩
   case measure => simp [intOf]; omega
end Go.Proofs.YtlhkinlgolcpaaaGreatDoor

namespace Go.Proofs.YtlhkinlgolcpaaaGreatDoor
set_option maxRecDepth 100000
open Go.RowKit
def eV (ho : Option Addr) (hn hc : Nat) (ko : Option Addr) (kn kc : Nat) (kd : Int) (vo : Option Addr) (vn vc : Nat) (pg ct : Int) : Array Value := #[.slice ho hn hc, .slice ko kn kc, .int .i64 kd, .slice vo vn vc, .int .i64 pg, .int .i64 ct]
def E6 (w : World) (g : Nat) (x0 x1 x2 x3 x4 x5 : Value) : Prop := w.heap[g]? = some (.cells #[x0, x1, x2, x3, x4, x5] 100 (0, 0))
theorem E6.cells {w : World} {g : Nat} {x0 x1 x2 x3 x4 x5 : Value} (h : E6 w g x0 x1 x2 x3 x4 x5) :
  w.cell? ⟨g, 0, none⟩ = some x0 ∧ w.cell? ⟨g, 1, none⟩ = some x1 ∧ w.cell? ⟨g, 2, none⟩ = some x2 ∧ w.cell? ⟨g, 3, none⟩ = some x3 ∧ w.cell? ⟨g, 4, none⟩ = some x4 ∧ w.cell? ⟨g, 5, none⟩ = some x5 := by
 unfold E6 at h
 refine ⟨?_, ?_, ?_, ?_, ?_, ?_⟩
 ·rw [cell_of_row _ _ 0 _ _ _ h]; rfl
 ·rw [cell_of_row _ _ 1 _ _ _ h]; rfl
 ·rw [cell_of_row _ _ 2 _ _ _ h]; rfl
 ·rw [cell_of_row _ _ 3 _ _ _ h]; rfl
 ·rw [cell_of_row _ _ 4 _ _ _ h]; rfl
 ·rw [cell_of_row _ _ 5 _ _ _ h]; rfl
theorem E6.box (w : World) (x0 x1 x2 x3 x4 x5 : Value) : E6 (w.alloc (.cells #[x0, x1, x2, x3, x4, x5] 100)) w.heap.size x0 x1 x2 x3 x4 x5 := heap_alloc_last w _
theorem E6.gr {w w' : World} {v v' : Value} {g : Nat} {x0 x1 x2 x3 x4 x5 : Value} (h : E6 w g x0 x1 x2 x3 x4 x5) (hg : Gr w v w' v') (hv : v.ownBlock ≠ some g) : E6 w' g x0 x1 x2 x3 x4 x5 := (hg.grow.block g (lt_some h) (fun e => hv e.symm)).trans h
theorem OwnB.apart6 {w : World} {B : Nat} {v : Value} {l : List Int} (h : OwnB w B v l) {g : Nat} {x0 x1 x2 x3 x4 x5 : Value} (hc : E6 w g x0 x1 x2 x3 x4 x5) : v.ownBlock ≠ some g := by
 intro e
 unfold OwnB at h
 rcases h.2 with ⟨rfl, _⟩ | ⟨q, cap, cur, rfl, _, hh, _⟩
 ·cases e
 ·simp only [Value.ownBlock, Option.some.injEq] at e
  subst e
  unfold E6 at hc
  rw [hc] at hh
  simp at hh
theorem add_block (a : Addr) (n : Nat) : (a.add n).block = a.block := by simp only [Addr.add]; split <;> rfl
theorem sl_from {w : World} {ao : Option Addr} {n cap : Nat} {l : List Int} (h : Sl w ao n cap l) (k : Nat) (hk : k ≤ n) : (ao = none ∧ n = 0 ∧ cap = 0) ∨ ∃ a, ao = some a ∧ ((cap = k ∧ Sl w (some a) (n - k) (cap - k) (l.drop k)) ∨ (cap ≠ k ∧ Sl w (some (a.add k)) (n - k) (cap - k) (l.drop k))) := by
 have hc := h.hcap
 cases ao with
 | none =>
  have := h.hnil rfl
  exact .inl ⟨rfl, by omega, this⟩
 | some a =>
  refine .inr ⟨a, rfl, ?_⟩
  by_cases e : cap = k
  ·refine .inl ⟨e, ?_⟩
   have hn : n - k = 0 := by omega
   have hd : l.drop k = [] := List.drop_eq_nil_of_le (by have := h.hlen; omega)
   rw [hn, hd]
   exact Sl.nil_any _ _ _ (by intro h; cases h)
  ·refine .inr ⟨e, ?_⟩
   by_cases hz : n = k
   ·subst hz
    rw [Nat.sub_self, List.drop_eq_nil_of_le (by have := h.hlen; omega)]
    exact Sl.nil_any _ _ _ (by intro h; cases h)
   ·rcases h.hat with h0 | ⟨b, off, e2, hlt, hcl⟩
    ·omega
    ·injection e2 with e2
     subst e2
     have := h.piece k (n - k) (cap - k) (by omega) (by omega)
     rw [List.take_of_length_le (by rw [List.length_drop]; have := h.hlen; omega)] at this
     simpa [Addr.add_lit] using this
def RestTo (ho ko : Option Addr) (hn kn : Nat) (l : List Int) (w : World) (e : Ending) (w' : World) : Prop :=
 ∃ (a1 : Option Addr) (n1 c1 : Nat) (a2 : Option Addr) (n2 c2 : Nat) (l1 l2 : List Int), e = .returned (.tuple #[.slice a1 n1 c1, .slice a2 n2 c2]) ∧ Hid (Below w.heap.size w w') ∧ Hid (Sl w' a1 n1 c1 l1 ∧ Sl w' a2 n2 c2 l2 ∧ l1 ++ l2 = l ∧ (∀ q, a1 = some q → ∃ o, ho = some o ∧ q.block = o.block) ∧ (∀ q, a2 = some q → ∃ o, ko = some o ∧ q.block = o.block) ∧ n1 ≤ hn ∧ n2 ≤ kn)
set_option maxHeartbeats 1000000 in
theorem erest_any (ho : Option Addr) (hn hc : Nat) (ko : Option Addr) (kn kc : Nat) (kd : Int) (vo : Option Addr) (vn vc : Nat) (pg ct : Int) (h key : List Int) (n : Nat) (w : World) (hh : Sl w ho hn hc h) (hk : Sl w ko kn kc key) (hl : n ≤ hn + kn) :
  Calls Tryz.prog 155 #[.agg (eV ho hn hc ko kn kc kd vo vn vc pg ct), .int .i64 (n : Int)] w fun e w' => RestTo ho ko hn kn ((h ++ key).drop n) w e w' := by
 unfold eV
 have hhr := hh.hroom
 have hkr := hk.hroom
 have hhl := hh.hlen
 have hkl := hk.hlen
 have hhc := hh.hcap
 have hkc := hk.hcap
 obtain ⟨x, hx⟩ : ∃ x, w.alloc (.cells #[.slice ho hn hc, .slice ko kn kc, .int .i64 kd, .slice vo vn vc, .int .i64 pg, .int .i64 ct] 100) = x := ⟨_, rfl⟩
 have hbx : Below w.heap.size w x := by rw [← hx]; exact bl_al (Below.refl _ _) (Nat.le_refl _) _
 have hb6 : E6 x w.heap.size (.slice ho hn hc) (.slice ko kn kc) (.int .i64 kd) (.slice vo vn vc) (.int .i64 pg) (.int .i64 ct) := by rw [← hx]; exact E6.box w _ _ _ _ _ _
 obtain ⟨b0, b1, b2, b3, b4, b5⟩ := hb6.cells
 have HBX := hidden hbx
 have HK := hidden (hk.on (Nat.le_refl _) hbx)
 have HH := hidden (hh.on (Nat.le_refl _) hbx)
 have i1 : (n : Int) ≤ 281474976710656 := by omega
 have i2 : (hn : Int) ≤ 140737488355328 := by omega
 have i3 : (kn : Int) ≤ 140737488355328 := by omega
 by_cases hle : n ≤ hn
 ·have hleI : (n : Int) ≤ (hn : Int) := by omega
  have hlc : n ≤ hc := by omega
  have hlcI : (n : Int) ≤ (hc : Int) := by omega
  have HD : Hid (h.drop n ++ key = (h ++ key).drop n) := hidden (by rw [List.drop_append_of_le_length (by omega)])
  rcases sl_from HH.out n hle with ⟨rfl, rfl, rfl⟩ | ⟨a, rfl, ⟨hcn, hs⟩ | ⟨hcn, hs⟩⟩
  ·obtain rfl : n = 0 := by omega
   clear hh hk hbx hb6
   go_enter Tryz.func155, Tryz.ntmps155
   go_wp2_with fail
   go_quiet (fail)
   go_wp2
   go_ret2
   have : h = [] := List.eq_nil_of_length_eq_zero hhl
   subst this
   exact ⟨none, 0, 0, ko, kn, kc, [], key, rfl, hidden (bl_dr HBX.out _), hidden ⟨Sl.nil_any _ _ _ (fun _ => rfl), HK.out.drewN _, by simp, (by intro q hq; cases hq), (fun q hq => ⟨q, hq, rfl⟩), by simp, by simp⟩⟩
  ·have HS := hidden hs
   clear hh hk hbx hb6 hs
   subst hcn
   obtain rfl : hn = hc := by omega
   go_enter Tryz.func155, Tryz.ntmps155
   go_wp2_with fail
   go_quiet (fail)
   go_wp2
   go_ret2
   exact ⟨some a, _, _, ko, kn, kc, h.drop hn, key, rfl, hidden (bl_dr HBX.out _), hidden ⟨by simpa using HS.out.drewN _, HK.out.drewN _, HD.out, (fun q hq => ⟨a, rfl, by injection hq with hq; rw [hq]⟩), (fun q hq => ⟨q, hq, rfl⟩), by simp, by simp⟩⟩
  ·have HS := hidden hs
   have hcn2 : hc - n ≠ 0 := by omega
   have hcn3 : n < hc := by omega
   have hcn4 : (n : Int) < (hc : Int) := by omega
   clear hh hk hbx hb6 hs
   go_enter Tryz.func155, Tryz.ntmps155
   go_wp2_with fail
   go_quiet (fail)
   go_wp2
   go_ret2
   exact ⟨some (a.add n), _, _, ko, kn, kc, h.drop n, key, rfl, hidden (bl_dr HBX.out _), hidden ⟨by simpa using HS.out.drewN _, HK.out.drewN _, HD.out, (fun q hq => ⟨a, rfl, by injection hq with hq; rw [← hq, add_block]⟩), (fun q hq => ⟨q, hq, rfl⟩), by simp, by simp⟩⟩
 ·have hleI : ¬ (n : Int) ≤ (hn : Int) := by omega
  obtain ⟨m, hm⟩ : ∃ m, n = hn + m := ⟨n - hn, by omega⟩
  subst hm
  have hmk : m ≤ kn := by omega
  have hmkI : (m : Int) ≤ (kn : Int) := by omega
  have hmc : m ≤ kc := by omega
  have hmcI : (m : Int) ≤ (kc : Int) := by omega
  have HD : Hid ([] ++ key.drop m = (h ++ key).drop (hn + m)) := hidden (by rw [← hhl, List.drop_append]; simp)
  have hw : IntKind.i64.wrap (((hn + m : Nat) : Int) - (hn : Int)) = (m : Int) := by rw [IntKind.wrap_i64]; omega
  have hw2 : ((hn : Int) + (m : Int)) - (hn : Int) = (m : Int) := by omega
  rcases sl_from HK.out m hmk with ⟨rfl, rfl, rfl⟩ | ⟨a, rfl, ⟨hcn, hs⟩ | ⟨hcn, hs⟩⟩
  ·omega
  ·have HS := hidden hs
   clear hh hk hbx hb6 hs
   subst hcn
   obtain rfl : kn = kc := by omega
   go_enter Tryz.func155, Tryz.ntmps155
   go_wp2_with fail
   go_quiet (fail)
   go_wp2
   go_ret2
   exact ⟨none, 0, 0, some a, _, _, [], key.drop kn, rfl, hidden (bl_dr HBX.out _), hidden ⟨Sl.nil_any _ _ _ (fun _ => rfl), by simpa using HS.out.drewN _, HD.out, (by intro q hq; cases hq), (fun q hq => ⟨a, rfl, by injection hq with hq; rw [hq]⟩), by simp, by simp⟩⟩
  ·have HS := hidden hs
   have hcn2 : kc - m ≠ 0 := by omega
   have hcn3 : m < kc := by omega
   have hcn4 : (m : Int) < (kc : Int) := by omega
   clear hh hk hbx hb6 hs
   go_enter Tryz.func155, Tryz.ntmps155
   go_wp2_with fail
   go_quiet (fail)
   go_wp2
   go_ret2
   exact ⟨none, 0, 0, some (a.add m), _, _, [], key.drop m, rfl, hidden (bl_dr HBX.out _), hidden ⟨Sl.nil_any _ _ _ (fun _ => rfl), by simpa using HS.out.drewN _, HD.out, (by intro q hq; cases hq), (fun q hq => ⟨a, rfl, by injection hq with hq; rw [← hq, add_block]⟩), by simp, by simp⟩⟩
end Go.Proofs.YtlhkinlgolcpaaaGreatDoor

namespace Go.Proofs.YtlhkinlgolcpaaaGreatDoor
set_option maxRecDepth 100000
open Go.RowKit
theorem run_app_sl (w : World) (ty : TypeId) (B : Nat) (l news : List Int) (v : Value) (ao : Option Addr) (n c : Nat) (hown : OwnB w B v l) (hsl : Sl w ao n c news) (hb : l.length + n ≤ 140737488355328) (hbase : B ≤ w.heap.size) :
  ∃ v' w', (Builtin.append_ #[25, 25] ty #[v, .slice ao n c]).run Tryz.prog w = .ok v' w' ∧ OwnB w' B v' (l ++ news) ∧ Gr w v w' v' := by
 obtain ⟨i0, hi, hz0, hz1, hz2⟩ := info_parts info5
 have hlen := hsl.hlen
 cases ao with
 | none =>
  have : n = 0 := by have := hsl.hnil rfl; have := hsl.hcap; omega
  subst this
  have hc0 := hsl.hnil rfl
  subst hc0
  obtain rfl : news = [] := List.eq_nil_of_length_eq_zero hlen
  exact ⟨v, w, run_append_owned_none (P := Tryz.prog) (w := w) B 25 ty 5 i0 1 Tryz.underlying25 hi v l.length (By l) hown, by simpa using hown, Gr.refl _ _⟩
 | some ad =>
  obtain ⟨v', w', hr, h1, h2, _, h4⟩ := run_append_own_at (P := Tryz.prog) w B 25 ty 5 i0 (.int .u8 0) 1 1 Tryz.underlying25 hi hz0 hz1 hz2 rfl (by decide) v l.length (By l) hown ad n c (By news) (by simp [By, hlen])
   (fun j u hu => by
    obtain ⟨h1, h2⟩ := getElem?_By news j u hu
    rw [h2]
    rcases hsl.hat with h0 | ⟨b, off, e, _, hc⟩
    ·omega
    ·injection e with e
     subst e
     rw [Addr.add_lit]
     exact hc j (by omega)) (By_one news) (by unfold maxLen; omega) (by omega) hbase
  refine ⟨v', w', hr, ?_, ⟨h2, h4.imp id fun e => ⟨_, e, Nat.le_refl _⟩⟩⟩
  unfold OwnB
  rw [By_append, List.length_append, hlen]
  exact h1
theorem step_sl {ops : Array Oper} {o : Oper} {a : Act} {w : World} {K : Act → World → Prop} {Q : Exit → Act → World → Prop} {E : Prop} (hgd : o.guard = none) (s x : Operand)
  (ho : o.op = .call { callee := .builtin .append, args := #[s, x], argTypes := #[25, 25] }) (B : Nat) (l news : List Int) (v : Value) (ao : Option Addr) (n c : Nat) (hs : a.eval s = v) (hx : a.eval x = .slice ao n c)
  (hown : OwnB w B v l) (hsl : Sl w ao n c news) (hb : l.length + n ≤ 140737488355328) (hbase : B ≤ w.heap.size)
  (h : ∀ v' w', OwnB w' B v' (l ++ news) → Gr w v w' v' → K (a.put o.dst v') w') :
  if Region.wanted o (yielded ops a.tmps) = true then Oper.wp Tryz.prog o a w K Q else E := by
 have hw : Region.wanted o (yielded ops a.tmps) = true := by simp [Region.wanted, hgd]
 rw [if_pos hw]
 obtain ⟨v', w', hr, h1, h2⟩ := run_app_sl w o.type B l news v ao n c hown hsl hb hbase
 have hfin := h v' w' h1 h2
 unfold Oper.wp
 simp [execOp, ho, resolve, invoke, builtin, hs, hx, hr, Result.andThen]
 exact hfin
set_option maxHeartbeats 1000000 in
theorem withKey_any (v : Value) (B : Nat) (l : List Int) (ho : Option Addr) (hn hc : Nat) (ko : Option Addr) (kn kc : Nat) (kd : Int) (vo : Option Addr) (vn vc : Nat) (pg ct : Int) (h key : List Int) (w : World) (hown : OwnB w B v l) (hB : B ≤ w.heap.size)
  (hh : Sl w ho hn hc h) (hk : Sl w ko kn kc key) (fh : Far ho hn v) (fk : Far ko kn v) (hl : l.length + hn + kn ≤ 140737488355328) :
  Calls Tryz.prog 160 #[.agg (eV ho hn hc ko kn kc kd vo vn vc pg ct), v] w fun e w' => ∃ v', e = .returned v' ∧ Hid (OwnB w' B v' (l ++ h ++ key)) ∧ Hid (Gr w v w' v') := by
 unfold eV
 obtain ⟨x, hx⟩ : ∃ x, w.alloc (.cells #[.slice ho hn hc, .slice ko kn kc, .int .i64 kd, .slice vo vn vc, .int .i64 pg, .int .i64 ct] 100) = x := ⟨_, rfl⟩
 have hbx : Below w.heap.size w x := by rw [← hx]; exact bl_al (Below.refl _ _) (Nat.le_refl _) _
 have hb6 : E6 x w.heap.size (.slice ho hn hc) (.slice ko kn kc) (.int .i64 kd) (.slice vo vn vc) (.int .i64 pg) (.int .i64 ct) := by rw [← hx]; exact E6.box w _ _ _ _ _ _
 obtain ⟨s, hs⟩ : ∃ s, w.heap.size = s := ⟨_, rfl⟩
 rw [hs] at hb6
 have HB6 := hidden hb6
 obtain ⟨b0, b1, b2, b3, b4, b5⟩ := hb6.cells
 have HO : Hid (OwnB x B v l) := hidden (hown.on (Nat.le_refl _) hbx)
 have HK : Hid (Sl x ko kn kc key) := hidden (hk.on (Nat.le_refl _) hbx)
 have HH : Hid (Sl x ho hn hc h) := hidden (hh.on (Nat.le_refl _) hbx)
 have HG : Hid (Gr w v x v) := hidden (Gr.ofBelow v hbx)
 have hBx : B ≤ x.heap.size := Nat.le_trans hB hbx.size
 have HFH := hidden fh
 have HFK := hidden fk
 have HAP := hidden (HO.out.apart6 hb6)
 have hlh : h.length = hn := hh.hlen
 clear hown hh hk fh fk hbx hb6
 go_enter Tryz.func160, Tryz.ntmps160
 go_wp2_with fail
 go_region_law (first
  | (refine step_sl rfl (.tmp 5) (.tmp 7) rfl B l h v ho hn hc rfl rfl (by first | exact HO.out | exact HO.out.on (Nat.le_refl _) (Below.refl _ _).drew | exact HO.out.on (Nat.le_refl _) (bl_dr (Below.refl _ _) _)) (by first | exact HH.out | exact HH.out.on (Nat.le_refl _) (Below.refl _ _).drew | exact HH.out.drewN _) (by omega) (by first | exact hBx | simpa using hBx) ?_; intro v1 w1 ho1 g1; have hg1 : Gr x v w1 v1 := (Gr.ofBelow v (by first | exact Below.refl _ _ | exact (Below.refl _ _).drew | exact bl_dr (Below.refl _ _) _)).trans g1; have HO1 := hidden ho1; have HK1 := hidden (HK.out.gr hg1 HFK.out); have HG1 := hidden (HG.out.trans hg1); have hB1 : B ≤ w1.heap.size := Nat.le_trans hBx hg1.grow.size; obtain ⟨y0, y1, y2, y3, y4, y5⟩ := (HB6.out.gr hg1 HAP.out).cells; clear ho1 g1 hg1)
  | (refine step_sl rfl (.tmp 8) (.tmp 11) rfl B (l ++ h) key v1 ko kn kc rfl rfl (by first | exact HO1.out | exact HO1.out.on (Nat.le_refl _) (Below.refl _ _).drew | exact HO1.out.on (Nat.le_refl _) (bl_dr (Below.refl _ _) _)) (by first | exact HK1.out | exact HK1.out.on (Nat.le_refl _) (Below.refl _ _).drew | exact HK1.out.drewN _) (by rw [List.length_append]; omega) (by first | exact hB1 | simpa using hB1) ?_; intro v2 w2 ho2 g2; have HO2 := hidden ho2; have HG2 := hidden (HG1.out.trans ((Gr.ofBelow v1 (by first | exact Below.refl _ _ | exact (Below.refl _ _).drew | exact bl_dr (Below.refl _ _) _)).trans g2)); clear ho2 g2))
 all_goals
  go_wp2
  go_ret
  exact ⟨v2, rfl, HO2, HG2⟩
end Go.Proofs.YtlhkinlgolcpaaaGreatDoor

namespace Go.Proofs.YtlhkinlgolcpaaaGreatDoor
set_option maxRecDepth 100000
open Go.RowKit
theorem made_run (N : Nat) (hN : N ≤ 281474976710656) (u : World) : (Instr.makeSlice 25 (.int .i64 0) (.int .i64 (N : Int))).run Tryz.prog u = .ok (.slice (some ⟨u.heap.size, 0, none⟩) 0 N) (u.alloc (.cells (madeCells #[.int .u8 0] N) 5)) := by
 obtain ⟨i0, hi, hz0, hz1, hz2⟩ := info_parts info5
 have hr := run_make (P := Tryz.prog) u 25 5 i0 (.int .u8 0) Tryz.underlying25 hi hz0 .i64 .i64 0 N (Int.le_refl _) (by omega) (by rw [hz2]; omega) (by omega)
 simp only [Int.toNat_zero, Int.toNat_natCast, hz1, Nat.mul_one] at hr
 exact hr
theorem own_made (N B : Nat) (hN : N ≤ 281474976710656) (u : World) (hB : B ≤ u.heap.size) : OwnB (u.alloc (.cells (madeCells #[.int .u8 0] N) 5)) B (.slice (some ⟨u.heap.size, 0, none⟩) 0 N) [] :=
 World.ownsRow_made u _ N hB (by unfold maxLen; omega) (by rw [Nat.mul_one]; exact size_madeCells _ _)
set_option maxHeartbeats 2000000 in
theorem keyq_any (ho : Option Addr) (hn hc : Nat) (ko : Option Addr) (kn kc : Nat) (kd : Int) (vo : Option Addr) (vn vc : Nat) (pg ct : Int) (h key : List Int) (w : World)
  (hh : Sl w ho hn hc h) (hk : Sl w ko kn kc key) (hl : hn + kn ≤ 140737488355328) :
  Calls Tryz.prog 132 #[.agg (eV ho hn hc ko kn kc kd vo vn vc pg ct)] w fun e w' => ∃ v', e = .returned v' ∧ Hid (OwnB w' w.heap.size v' (h ++ key)) ∧ Hid (Below w.heap.size w w') := by
 unfold eV
 obtain ⟨x, hx⟩ : ∃ x, w.alloc (.cells #[.slice ho hn hc, .slice ko kn kc, .int .i64 kd, .slice vo vn vc, .int .i64 pg, .int .i64 ct] 100) = x := ⟨_, rfl⟩
 have hbx : Below w.heap.size w x := by rw [← hx]; exact bl_al (Below.refl _ _) (Nat.le_refl _) _
 have hb6 : E6 x w.heap.size (.slice ho hn hc) (.slice ko kn kc) (.int .i64 kd) (.slice vo vn vc) (.int .i64 pg) (.int .i64 ct) := by rw [← hx]; exact E6.box w _ _ _ _ _ _
 obtain ⟨s, hs⟩ : ∃ s, w.heap.size = s := ⟨_, rfl⟩
 have hsx : s < x.heap.size := by rw [← hs]; exact lt_some hb6
 rw [hs] at hb6
 obtain ⟨b0, b1, b2, b3, b4, b5⟩ := hb6.cells
 obtain ⟨N, hN⟩ : ∃ N, hn + kn = N := ⟨_, rfl⟩
 have hNI : (hn : Int) + (kn : Int) = (N : Int) := by omega
 have hNb : N ≤ 140737488355328 := by omega
 have i1 : (hn : Int) ≤ 140737488355328 := by omega
 have i2 : (kn : Int) ≤ 140737488355328 := by omega
 have hwN : IntKind.i64.wrap (N : Int) = (N : Int) := by rw [IntKind.wrap_i64]; omega
 have hmk := made_run N (by omega)
 have HW : Hid (∀ u g, Below x.heap.size x u → OwnB u x.heap.size (.slice (some ⟨g, 0, none⟩) 0 N) [] → Calls Tryz.prog 160 #[.agg #[.slice ho hn hc, .slice ko kn kc, .int .i64 kd, .slice vo vn vc, .int .i64 pg, .int .i64 ct], .slice (some ⟨g, 0, none⟩) 0 N] u fun e w' => ∃ v', e = .returned v' ∧ Hid (OwnB w' w.heap.size v' (h ++ key)) ∧ Hid (Below w.heap.size w w')) := by
  refine hidden fun u g hu hown => ?_
  have hg : x.heap.size ≤ g := (World.ownsRow.lt hown g rfl).1
  have far : ∀ (ao : Option Addr) (n cap : Nat) (l : List Int), Sl x ao n cap l → Far ao n (.slice (some ⟨g, 0, none⟩) 0 N) := by
   intro ao n cap l hsl
   rcases hsl.hat with h0 | ⟨b, off, e, hlt, _⟩
   ·exact .inl h0
   ·refine .inr fun p hp e2 => ?_
    rw [e] at hp
    injection hp with hp
    subst hp
    injection e2 with e2
    have e3 : g = b := e2
    omega
  have hhx := hh.on (Nat.le_refl _) hbx
  have hkx := hk.on (Nat.le_refl _) hbx
  refine (withKey_any _ x.heap.size [] ho hn hc ko kn kc kd vo vn vc pg ct h key u hown hu.size (hhx.on (Nat.le_refl _) hu) (hkx.on (Nat.le_refl _) hu) (far _ _ _ _ hhx) (far _ _ _ _ hkx) (by simp; omega)).mono ?_
  rintro e w' ⟨v', rfl, HO, HG⟩
  refine ⟨v', rfl, hidden ?_, hidden (hbx.trans ((hu.trans (HG.out.below hown hu.size)).mono hbx.size))⟩
  have := HO.out.low (B := w.heap.size) hbx.size
  simpa using this
 clear hh hk hbx hb6 hN
 go_enter Tryz.func132, Tryz.ntmps132
 go_wp2_with fail
 go_region_with (first | (go_at_call 160; refine (HW.out _ _ ?_ ?_).mono ?_; (repeat (first | exact Below.refl _ _ | apply Below.drew | apply below_drewN | refine bl_al ?_ (Nat.le_refl _) _)); (first | exact own_made N _ (by omega) _ (by simp) | exact (own_made N _ (by omega) _ (by simp)).on (Nat.le_refl _) (Below.refl _ _).drew | exact (own_made N _ (by omega) _ (by simp)).on (Nat.le_refl _) (bl_dr (Below.refl _ _) _)); rintro e w1 ⟨v1, rfl, HO1, HB1⟩))
 all_goals
  go_wp2
  go_ret
  exact ⟨v1, rfl, HO1, HB1⟩
end Go.Proofs.YtlhkinlgolcpaaaGreatDoor
