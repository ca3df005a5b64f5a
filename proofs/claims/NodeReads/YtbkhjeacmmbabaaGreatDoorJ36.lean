import Derived.Handy
import Derived.Laws.EntriesVeiled
import Derived.WideLaws
import Derived.Test.YtbkhjeacmmbabaaGreatDoorJ35
namespace Go.Proofs.YtbkhjeacmmbabaaGreatDoor
set_option maxRecDepth 100000
set_option maxHeartbeats 4000000
open Go.RowKit
theorem zdl {P : Program} {fn : Func} {p u : Tmp} {ty : TypeId} (h : fn.results = #[.cell p ty, .tmp u]) (tmps : Array Value) (w : World) (g : Nat) (t : TypeId) (cs : Array Value) (fr : Nat × Nat) (d : TypeDesc) (v : Value)
  (hp : tmps.getD p undef = .pointer (some ⟨g, 0, none⟩)) (hv : tmps.getD u undef = v) (hg : w.heap[g]? = some (.cells cs t fr))
  (hu : P.underlying ty = some d) (hd : (match d with | .struct _ | .array _ _ => true | _ => false) = true) (hi : (P.info? ty).map (·.size) = some cs.size) :
  (results fn tmps).run P w = .ok (.tuple #[.agg cs, v]) w := by
 subst hv
 rw [results_cell_tmp h, hp]
 simp [asAddr, run_loadVar_row w g t ty cs fr d hg hu hd hi, Result.andThen]
abbrev fV (f : Nat) : Value := .func (.func f) #[] #[]
abbrev ly1 : Array Value := #[fV 34, fV 35, fV 36, fV 37, fV 40]
abbrev ly2 : Array Value := #[fV 42, fV 43, fV 44, fV 45, fV 48]
abbrev ly0 : Array Value := #[.nilFunc, .nilFunc, .nilFunc, .nilFunc, .nilFunc]
theorem sizeLy : (Tryz.prog.info? 61).map (·.size) = some 5 := by kernel_rfl
theorem layout_1 (w : World) : Calls Tryz.prog 17 #[.int .i64 1] w fun e w' => e = .returned (.tuple #[.agg ly1, .bool true]) ∧ Hid (Below w.heap.size w w') := by
 go_enter Tryz.func17, Tryz.ntmps17
 go_wp2
 refine bodyPost_ret (zdl rfl _ _ w.heap.size 61 ly1 (0, 0) _ (.bool true) zr zr (heap_alloc_last w _) Tryz.underlying61 rfl sizeLy) rfl ?_
 exact ⟨rfl, zaa (zab Br Lr _)⟩
theorem layout_2 (w : World) : Calls Tryz.prog 17 #[.int .i64 2] w fun e w' => e = .returned (.tuple #[.agg ly2, .bool true]) ∧ Hid (Below w.heap.size w w') := by
 go_enter Tryz.func17, Tryz.ntmps17
 go_wp2
 refine bodyPost_ret (zdl rfl _ _ w.heap.size 61 ly2 (0, 0) _ (.bool true) zr zr (heap_alloc_last w _) Tryz.underlying61 rfl sizeLy) rfl ?_
 exact ⟨rfl, zaa (zab Br Lr _)⟩
theorem layout_0 (w : World) (x : Int) (h1 : ¬ x = 1) (h2 : ¬ x = 2) : Calls Tryz.prog 17 #[.int .i64 x] w fun e w' => e = .returned (.tuple #[.agg ly0, .bool false]) ∧ Hid (Below w.heap.size w w') := by
 go_enter Tryz.func17, Tryz.ntmps17
 go_wp2
 refine bodyPost_ret (zdl rfl _ _ w.heap.size 61 ly0 (0, 0) _ (.bool false) zr zr (heap_alloc_last w _) Tryz.underlying61 rfl sizeLy) rfl ?_
 exact ⟨rfl, zaa (zab Br Lr _)⟩
abbrev iP (a : Nat) : Value := .iface 80 (.pointer (some ⟨a, 0, none⟩))
abbrev iQ (a : Nat) : Value := .iface 85 (.pointer (some ⟨a, 0, none⟩))
theorem asP_yes (a : Nat) (w : World) : Calls Tryz.prog 38 #[.pointer (some ⟨a, 0, none⟩), .int .i64 0] w fun e w' => e = .returned (.tuple #[iP a, .int .i64 0]) ∧ w' = w := by
 go_enter Tryz.func38, Tryz.ntmps38
 go_wp2
 go_ret2
 exact ⟨rfl, rfl⟩
theorem asP_no (p : Option Addr) (c : Int) (hc : ¬ c = 0) (w : World) : Calls Tryz.prog 38 #[.pointer p, .int .i64 c] w fun e w' => e = .returned (.tuple #[.nilIface, .int .i64 c]) ∧ w' = w := by
 go_enter Tryz.func38, Tryz.ntmps38
 go_wp2
 go_ret2
 exact ⟨rfl, rfl⟩
theorem asQ_yes (a : Nat) (w : World) : Calls Tryz.prog 46 #[.pointer (some ⟨a, 0, none⟩), .int .i64 0] w fun e w' => e = .returned (.tuple #[iQ a, .int .i64 0]) ∧ w' = w := by
 go_enter Tryz.func46, Tryz.ntmps46
 go_wp2
 go_ret2
 exact ⟨rfl, rfl⟩
theorem asQ_no (p : Option Addr) (c : Int) (hc : ¬ c = 0) (w : World) : Calls Tryz.prog 46 #[.pointer p, .int .i64 c] w fun e w' => e = .returned (.tuple #[.nilIface, .int .i64 c]) ∧ w' = w := by
 go_enter Tryz.func46, Tryz.ntmps46
 go_wp2
 go_ret2
 exact ⟨rfl, rfl⟩
def NNewP (k n : Int) (w : World) (e : Ending) (w' : World) : Prop :=
 ∃ v c, e = .returned (.tuple #[v, .int .i64 c]) ∧ Hid (Below w.heap.size w w') ∧ Hid ((v = .nilIface ∧ c = 1 ∧ ¬ (isKd k ∧ pw n)) ∨ ∃ a, v = iP a ∧ c = 0 ∧ isKd k ∧ pw n ∧ w.heap.size ≤ a ∧ PR w' a k n.toNat (.slice none 0 0) (.slice none 0 0))
theorem NNewP.from {k n : Int} {w u w' : World} {e : Ending} (h : NNewP k n u e w') (hb : Below w.heap.size w u) : NNewP k n w e w' := by
 obtain ⟨v, c, rfl, HB, HQ⟩ := h
 refine ⟨v, c, rfl, zaa (zae hb Lr HB.out), zaa ?_⟩
 rcases HQ.out with h | ⟨a, h1, h2, h3, h4, h5, h6⟩
 ·exact .inl h
 ·exact .inr ⟨a, h1, h2, h3, h4, zN hb.size h5, h6⟩
theorem makeP_any (k n : Int) (w : World) : Calls Tryz.prog 37 #[.int .i64 k, .int .i64 n] w (NNewP k n w) := by
 have HN := zaa (new_any k n w)
 go_enter Tryz.func37, Tryz.ntmps37
 go_wp2_with (go_at_call 39; refine HN.out.mono ?_; rintro e w1 ⟨po, c, rfl, HB, HQ⟩; refine Hid.out ?_)
 apply zaa
 clear HN
 rcases HQ.out with ⟨rfl, rfl, hn⟩ | ⟨rfl, rfl, hk, hn, hh⟩
 ·have H1 := zaa hn
  clear HQ hn
  go_wp2_with (go_at_call 38; refine zad (asP_no _ _ zd _) ?_)
  go_ret2
  exact ⟨_, _, rfl, HB, zaa (.inl ⟨rfl, rfl, H1.out⟩)⟩
 ·have H1 := zaa (And.intro hk (And.intro hn hh))
  clear HQ hk hn hh
  go_wp2_with (go_at_call 38; refine zad (asP_yes _ _) ?_)
  go_ret2
  obtain ⟨h1, h2, h3⟩ := H1.out
  have e : n = ((n.toNat : Nat) : Int) := by have := pw_le h2; omega
  refine ⟨_, _, rfl, HB, zaa (.inr ⟨_, rfl, rfl, h1, h2, Lr, ?_⟩)⟩
  unfold PR
  rw [← e]
  exact h3
theorem nnew_1 (k n : Int) (w : World) : Calls Tryz.prog 13 #[.int .i64 1, .int .i64 k, .int .i64 n] w (NNewP k n w) := by
 have HL := zaa (layout_1 w)
 have HM := zaa (fun u => makeP_any k n u)
 go_enter Tryz.func13, Tryz.ntmps13
 go_wp2_with (first | (go_at_call 17; refine HL.out.mono ?_; rintro e w1 ⟨rfl, A⟩) | (go_at_call 37; refine (HM.out _).mono ?_; rintro e w2 ⟨v, c, rfl, B, C⟩; refine Hid.out ?_))
 apply zaa
 go_wp2
 go_ret2
 exact NNewP.from ⟨v, c, rfl, B, C⟩ (zab A.out Lr _)
theorem nnew_0 (x k n : Int) (h1 : ¬ x = 1) (h2 : ¬ x = 2) (w : World) : Calls Tryz.prog 13 #[.int .i64 x, .int .i64 k, .int .i64 n] w fun e w' => e = .returned (.tuple #[.nilIface, .int .i64 80]) ∧ Hid (Below w.heap.size w w') := by
 have HL := zaa (layout_0 w x h1 h2)
 clear h1 h2
 go_enter Tryz.func13, Tryz.ntmps13
 go_wp2_with (go_at_call 17; refine HL.out.mono ?_; rintro e w1 ⟨rfl, A⟩)
 go_ret2
 exact ⟨rfl, zaa (zab A.out Lr _)⟩
def egO (l : List Int) : Int := if l.length < 2 then 0 else l.getD 1 0
theorem zdg (ao : Option Addr) (n cap : Nat) (l : List Int) (w : World) (hs : Sl w ao n cap l) :
  Calls Tryz.prog 18 #[.slice ao n cap] w fun e w' => e = .returned (.int .i64 (egO l)) ∧ w' = w := by
 have A := hs.hlen
 have B := hs.hroom
 unfold egO
 rw [A]
 by_cases h : n < 2
 ·rw [if_pos h]
  have hI : (n : Int) < 2 := zq
  clear hs A
  go_enter Tryz.func18, Tryz.ntmps18
  go_wp2
  go_ret
  exact ⟨rfl, rfl⟩
 ·rw [if_neg h]
  have hI : ¬ (n : Int) < 2 := zq
  have h1 : 1 < n := zq
  obtain ⟨g, off, rfl, hc⟩ : ∃ g off, ao = some ⟨g, off, none⟩ ∧ w.cell? ⟨g, off + 1, none⟩ = some (.int .u8 (l.getD 1 0)) := by
   rcases hs.hat with h0 | ⟨g, off, e, _, hc⟩
   ·omega
   ·exact ⟨g, off, e, hc 1 h1⟩
  have hb := hs.wf.getD 1
  generalize l.getD 1 0 = x at *
  clear hs A
  go_enter Tryz.func18, Tryz.ntmps18
  go_wp2
  go_ret
  exact ⟨rfl, rfl⟩
def cellE (cs : List Cl) (x : Int) : Cl := if 0 ≤ x ∧ x < (cs.length : Int) then (cs[x.toNat]?).getD ⟨[], 0, [], 0, 0⟩ else ⟨[], 0, [], 0, 0⟩
def CelO (c : Cl) (E : Int) (w : World) (e : Ending) (w' : World) : Prop :=
 ∃ ao a2 bo b2, e = .returned (.tuple #[.agg #[.slice ao c.key.length a2, .int .i64 c.kd, .slice bo c.val.length b2, .int .i64 c.pg, .int .i64 c.ct], .int .i64 E]) ∧ Hid (OwnB w' w.heap.size (.slice ao c.key.length a2) c.key ∧ OwnB w' w.heap.size (.slice bo c.val.length b2) c.val ∧ ∀ z, (Value.slice ao c.key.length a2).ownBlock = some z → ¬ (Value.slice bo c.val.length b2).ownBlock = some z) ∧ Hid (Below w.heap.size w w')
theorem cellO_any (w : World) (B a : Nat) (k : Int) (n : Nat) (vb vs : Value) (cs : List Cl) (x : Int) (hp : Po w B a k n vb vs cs) (hw : ∀ c ∈ cs, c.Wf) (I : ∀ c ∈ cs, c.fit) (hz : szN cs ≤ n) (hn : n ≤ 65536) :
  Calls Tryz.prog 216 #[.pointer (some ⟨a, 0, none⟩), .int .i64 x] w (CelO (cellE cs x) (remE cs x) w) := by
 have P := zaw cs
 obtain ⟨s, hs⟩ : ∃ s, w.heap.size = s := ⟨_, rfl⟩
 obtain ⟨y, hy⟩ : ∃ y, w.alloc (.cells #[.slice none 0 0, .int .i64 0, .slice none 0 0, .int .i64 0, .int .i64 0] 50) = y := ⟨_, rfl⟩
 have F : Below w.heap.size w y := by rw [← hy]; exact zab Br Lr _
 have E : Hid (C5 y s (.slice none 0 0) (.int .i64 0) (.slice none 0 0) (.int .i64 0) (.int .i64 0)) := by rw [← hy, ← hs]; exact zaa (C5.box _ _ _ _ _ _)
 have J := zaa F
 have C := hp.on F
 obtain ⟨bo, bc, rfl⟩ := C.body.slice
 obtain ⟨so, sc, rfl⟩ := C.starts.shape
 rw [zak] at C
 obtain ⟨sn, K⟩ : ∃ sn, cs.length = sn := ⟨_, rfl⟩
 have G : s + 1 ≤ y.heap.size := by rw [← hy, ← hs]; simp
 have H := C.pg hw zq
 have D := C.row
 unfold remE cellE
 rw [K] at H D ⊢
 by_cases hx : 0 ≤ x ∧ x < (sn : Int)
 ·rw [if_pos hx, if_pos hx]
  obtain ⟨i, rfl⟩ : ∃ i : Nat, x = (i : Int) := ⟨x.toNat, zq⟩
  rw [Int.toNat_natCast]
  have hi : i < cs.length := zq
  obtain ⟨c, L⟩ : ∃ c, cs[i]? = some c := ⟨_, zI hi⟩
  rw [L, Option.getD_some]
  have HH := zaa (has_any y a k n _ so sn sc D (i : Int) true ⟨fun _ => hx, fun _ => rfl⟩)
  have M := zaa (view_any y a k n bo _ bc so sn sc cs H I i hi c L zq)
  obtain ⟨key, kd, val, pg, ct⟩ := c
  simp only at M ⊢
  have V := zaa G
  have W := zaa hs
  have A6 : (i : Int) < (sn : Int) := hx.2
  clear hp C H D L hw I F K G hx hz P hi
  go_enter Tryz.func216, Tryz.ntmps216
  go_wp2_with (first
   | (go_at_call 223; refine zad HH.out ?_)
   | (go_at_call 77; refine M.out.mono ?_; rintro e u1 ⟨ko, kn, kc, vo, vn, vc, rfl, HK, HV, N⟩; refine Hid.out ?_))
  apply zaa
  have HC := zaa (copied_any ko kn kc kd vo vn vc pg ct key val u1 HK.out HV.out)
  have X := zaa HK.out.hlen
  have Y := zaa HV.out.hlen
  have Z := zaa HK.out.hroom
  have A0 := zaa HV.out.hroom
  clear HH M
  go_wp2_with (go_at_call 76; refine HC.out.mono ?_; rintro e u2 ⟨g1, g2, rfl, HG, Q⟩; refine Hid.out ?_)
  apply zaa
  have A : C5 u2 s (.slice none 0 0) (.int .i64 0) (.slice none 0 0) (.int .i64 0) (.int .i64 0) := zag (zag E.out N.out) Q.out
  have O := zaa A
  obtain ⟨b0, b1, b2', b3, b4⟩ := A.cells
  obtain ⟨h0, h1, h2, h3, h4⟩ := A.free
  clear A HC
  go_wp2
  refine bodyPost_ret (zdl rfl _ _ s 50 #[.slice (some ⟨g1, 0, none⟩) kn kn, .int .i64 kd, .slice (some ⟨g2, 0, none⟩) vn vn, .int .i64 pg, .int .i64 ct] (0, 0) _ (.int .i64 0) zr zr (O.out.put _ _ _ _ _) Tryz.underlying50 rfl zal) rfl ?_
  have hf := zaq u2 s (.slice (some ⟨g1, 0, none⟩) kn kn) (.int .i64 kd) (.slice (some ⟨g2, 0, none⟩) vn vn) (.int .i64 pg) (.int .i64 ct)
  have G := V.out
  have A7 := W.out
  have A1 := X.out
  have A2 := Y.out
  have A3 := Z.out
  have A4 := A0.out
  have A8 := N.out.size
  obtain ⟨R, T, A9, B0, A5⟩ := HG.out
  have U := zae (zae J.out Lr N.out) Lr Q.out
  subst A1
  subst A2
  refine ⟨some ⟨g1, 0, none⟩, key.length, some ⟨g2, 0, none⟩, val.length, rfl, zaa ⟨?_, ?_, ?_⟩, zaa (U.trans (hf.below U.size (by intro i hi e; omega)))⟩
  ·exact zcn (l := key) (R.cf hf (R.apart5 O.out)) zq (zN A3 (by unfold maxLen; decide))
  ·exact zcn (l := val) (T.cf hf (T.apart5 O.out)) zq (zN A4 (by unfold maxLen; decide))
  ·intro z h1 h2
   have e1 : g1 = z := by simpa [Value.ownBlock] using h1
   have e2 : g2 = z := by simpa [Value.ownBlock] using h2
   exact A5 (e1.trans e2.symm)
 ·rw [if_neg hx, if_neg hx]
  have HH := zaa (has_any y a k n _ so sn sc D x false ⟨fun h => (by cases h), fun h => absurd h hx⟩)
  obtain ⟨b0, b1, b2', b3, b4⟩ := E.out.cells
  obtain ⟨h0, h1, h2, h3, h4⟩ := E.out.free
  have hf := zaq y s (.slice none 0 0) (.int .i64 0) (.slice none 0 0) (.int .i64 0) (.int .i64 0)
  have HF := zaa hf
  have HS := zaa hs
  clear hp C H D hw I F K G hf hx hz P
  go_enter Tryz.func216, Tryz.ntmps216
  go_wp2_with (go_at_call 223; refine zad HH.out ?_)
  refine bodyPost_ret (zdl rfl _ _ s 50 #[.slice none 0 0, .int .i64 0, .slice none 0 0, .int .i64 0, .int .i64 0] (0, 0) _ (.int .i64 64) zr zr (E.out.put _ _ _ _ _) Tryz.underlying50 rfl zal) rfl ?_
  exact ⟨none, 0, none, 0, rfl, zaa ⟨OwnB.nil _ _, OwnB.nil _ _, fun z h1 => (by simp [Value.ownBlock] at h1)⟩, zaa (J.out.trans (HF.out.below J.out.size (by intro i hi e; have := HS.out; omega)))⟩
theorem zdw (g : Nat) : ∀ (vs : List Value) (o : Nat) (w : World), w.grownBy (w.setCells g o vs) (some g)
 | [], _, w => World.grownBy.refl w _
 | v :: vs, o, w => by
  have h1 : w.grownBy (w.setCell ⟨g, o, none⟩ v) (some g) := ⟨rfl, rfl, rfl, by simp [World.setCell], fun k _ hk => Below.heap_setCell _ _ _ _ (fun e => hk (by simp [e]))⟩
  have h2 := zdw g vs (o + 1) (w.setCell ⟨g, o, none⟩ v)
  exact ⟨h2.os.trans h1.os, h2.tape.trans h1.tape, h2.output.trans h1.output, zN h1.size h2.size, fun i hi A => (h2.block i (zO hi h1.size) A).trans (h1.block i hi A)⟩
theorem OwnB.sets8 {w : World} {B b N j : Nat} {v : Value} {l : List Int} {vs : List Value} (h : OwnB w B v l) (hr : RowC w b N) : OwnB (w.setCells b j vs) B v l := by
 refine World.ownsRow.kept (row := some b) h (zdw b vs j w) ?_
 cases e : v.ownBlock with
 | none => exact .inl rfl
 | some z =>
  right
  intro e2
  injection e2 with e2
  subst e2
  obtain ⟨cur, h1, _⟩ := hr
  unfold OwnB at h
  rcases h.2 with ⟨rfl, _⟩ | ⟨q, c, cu, rfl, _, h2, _⟩
  ·simp [Value.ownBlock] at e
  ·simp [Value.ownBlock] at e
   subst e
   rw [h1] at h2
   injection h2 with h2
   injection h2 with _ h3
   exact absurd h3 zd
end Go.Proofs.YtbkhjeacmmbabaaGreatDoor
namespace Go.Proofs.YtbkhjeacmmbabaaGreatDoor
set_option maxRecDepth 100000
set_option maxHeartbeats 4000000
open Go.RowKit
open Six
def DGt (w : World) (lo hi b off : Nat) (c : Cl) : Prop :=
 ∃ a1 c1 a2 c2, w.cell? ⟨b, off, none⟩ = some (.slice a1 c.key.length c1) ∧ w.cell? ⟨b, off + 1, none⟩ = some (.int .i64 c.kd) ∧ w.cell? ⟨b, off + 2, none⟩ = some (.slice a2 c.val.length c2) ∧ w.cell? ⟨b, off + 3, none⟩ = some (.int .i64 c.pg) ∧ w.cell? ⟨b, off + 4, none⟩ = some (.int .i64 c.ct) ∧ OwnB w lo (.slice a1 c.key.length c1) c.key ∧ OwnB w lo (.slice a2 c.val.length c2) c.val ∧ (∀ z, (Value.slice a1 c.key.length c1).ownBlock = some z → z < hi) ∧ (∀ z, (Value.slice a2 c.val.length c2).ownBlock = some z → z < hi) ∧ ((Value.slice a1 c.key.length c1).ownBlock = none ∨ (Value.slice a1 c.key.length c1).ownBlock ≠ (Value.slice a2 c.val.length c2).ownBlock)
theorem DGt.on {w w' : World} {lo hi b off : Nat} {c : Cl} (h : DGt w lo hi b off c) (hb : b < w.heap.size) (hB : Below w.heap.size w w') : DGt w' lo hi b off c := by
 obtain ⟨a1, c1, a2, c2, h0, h1, h2, h3, h4, h5, h6, h7⟩ := h
 exact ⟨a1, c1, a2, c2, (hB.cell (p := ⟨b, off, none⟩) hb).trans h0, (hB.cell (p := ⟨b, off + 1, none⟩) hb).trans h1, (hB.cell (p := ⟨b, off + 2, none⟩) hb).trans h2, (hB.cell (p := ⟨b, off + 3, none⟩) hb).trans h3, (hB.cell (p := ⟨b, off + 4, none⟩) hb).trans h4, h5.on Lr hB, h6.on Lr hB, h7⟩
theorem DGt.put {w : World} {lo hi b N i j : Nat} {c : Cl} {vs : List Value} (h : DGt w lo hi b (i * 5) c) (hr : RowC w b N) (A : i < j) : DGt (w.setCells b (j * 5) vs) lo hi b (i * 5) c := by
 obtain ⟨a1, c1, a2, c2, h0, h1, h2, h3, h4, h5, h6, h7⟩ := h
 have ho : ∀ d, d < 5 → (w.setCells b (j * 5) vs).cell? ⟨b, i * 5 + d, none⟩ = w.cell? ⟨b, i * 5 + d, none⟩ := fun d hd => World.cell?_setCells_out b _ _ w _ (fun _ _ => .inl (by simp only; omega))
 exact ⟨a1, c1, a2, c2, (ho 0 zq).trans h0, (ho 1 zq).trans h1, (ho 2 zq).trans h2, (ho 3 zq).trans h3, (ho 4 zq).trans h4, h5.sets8 hr, h6.sets8 hr, h7⟩
theorem DGt.new {w : World} {lo hi b N j : Nat} {c : Cl} {a1 a2 : Option Addr} {c1 c2 : Nat} (hr : RowC w b N) (hj : j * 5 + 5 ≤ 5 * N) (h1 : OwnB w lo (.slice a1 c.key.length c1) c.key) (h2 : OwnB w lo (.slice a2 c.val.length c2) c.val) (hh : w.heap.size ≤ hi) (h3 : ∀ z, (Value.slice a1 c.key.length c1).ownBlock = some z → ¬ (Value.slice a2 c.val.length c2).ownBlock = some z) :
  DGt (w.setCells b (j * 5) [.slice a1 c.key.length c1, .int .i64 c.kd, .slice a2 c.val.length c2, .int .i64 c.pg, .int .i64 c.ct]) lo hi b (j * 5) c := by
 have h := World.rangeAt_setCells_same w b (j * 5) [.slice a1 c.key.length c1, .int .i64 c.kd, .slice a2 c.val.length c2, .int .i64 c.pg, .int .i64 c.ct] (hr.there hj)
 refine ⟨a1, c1, a2, c2, h 0 _ rfl, h 1 _ rfl, h 2 _ rfl, h 3 _ rfl, h 4 _ rfl, h1.sets8 hr, h2.sets8 hr, fun z hz => zO (h1.blk hz).2 hh, fun z hz => zO (h2.blk hz).2 hh, ?_⟩
 cases e : (Value.slice a1 c.key.length c1).ownBlock with
 | none => exact .inl rfl
 | some z => exact .inr (fun e2 => h3 z e e2.symm)
theorem DXt.dg {w : World} {lo hi b off : Nat} {c : Cl} (h : DXt w lo hi b off c) (hl : c.key.length ≤ 65536 ∧ c.val.length ≤ 65536) : DGt w lo hi b off c := by
 obtain ⟨g1, g2, h0, h1, h2, h3, h4, b1, b2, q1, q2, q3, q4, q5⟩ := h
 exact ⟨some ⟨g1, 0, none⟩, c.key.length, some ⟨g2, 0, none⟩, c.val.length, h0, h1, h2, h3, h4, Six.Bk.own b1 q1 rfl zq, Six.Bk.own b2 q2 rfl zq, fun z hz => by injection hz with hz; rw [← hz]; exact q3, fun z hz => by injection hz with hz; rw [← hz]; exact q4, .inr (fun e => by injection e with e; exact q5 e)⟩
theorem KXt.dg {w : World} {lo hi b off : Nat} {c : Cl} (h : KXt w lo hi b off c) (hl : c.val.length ≤ 65536) : DGt w lo hi b off c := by
 obtain ⟨a1, c1, g2, h0, h1, h2, h3, h4, o1, b2, q1, q2, q3, q4⟩ := h
 exact ⟨a1, c1, some ⟨g2, 0, none⟩, c.val.length, h0, h1, h2, h3, h4, o1, Six.Bk.own b2 q2 rfl zq, q1, fun z hz => by injection hz with hz; rw [← hz]; exact q3, .inr q4⟩
theorem OwnB.k3 {w w' : World} {C : Nat} {u : Value} {l : List Int} (h : OwnB w C u l) (hk : K3 w w') : OwnB w' C u l := row_k3 h hk u8_ne6 u8_neX u8_neY
structure OwnG (w : World) (B g : Nat) (cs : List Cl) (P : Nat → Nat) : Prop where
 row : RowC w g cs.length
 hg : B ≤ g
 p0 : B ≤ P 0
 up : ∀ i, i < cs.length → P i ≤ P (i + 1)
 top : P cs.length ≤ w.heap.size
 at_ : ∀ i d, cs[i]? = some d → DGt w (P i) (P (i + 1)) g (i * 5) d
theorem OwnG.k3 {w w' : World} {B g : Nat} {cs : List Cl} {P : Nat → Nat} (h : OwnG w B g cs P) (hk : K3 w w') : OwnG w' B g cs P := by
 obtain ⟨cur, hr, hs⟩ := h.row
 have e : w'.heap[g]? = w.heap[g]? := hk.2 g _ _ _ hr c_ne6 c_neX c_neY
 refine ⟨⟨cur, e.trans hr, hs⟩, h.hg, h.p0, h.up, zN h.top hk.1, fun i d hd => ?_⟩
 obtain ⟨a1, c1, a2, c2, h0, h1, h2, h3, h4, h5, h6, h7⟩ := h.at_ i d hd
 exact ⟨a1, c1, a2, c2, (World.cell?_of_block (a := ⟨g, _, none⟩) e).trans h0, (World.cell?_of_block (a := ⟨g, _, none⟩) e).trans h1, (World.cell?_of_block (a := ⟨g, _, none⟩) e).trans h2, (World.cell?_of_block (a := ⟨g, _, none⟩) e).trans h3, (World.cell?_of_block (a := ⟨g, _, none⟩) e).trans h4, h5.k3 hk, h6.k3 hk, h7⟩
theorem OwnG.slc {w : World} {B g : Nat} {cs : List Cl} {P : Nat → Nat} (h : OwnG w B g cs P) (hw : ∀ c ∈ cs, c.Wf) (hl : ∀ c ∈ cs, c.key.length ≤ 65536 ∧ c.val.length ≤ 65536) (hn : cs.length ≤ 140737488355328) : SlC w (some ⟨g, 0, none⟩) cs.length cs.length cs := by
 refine ⟨rfl, Lr, hn, (by intro h; cases h), .inr ⟨g, 0, rfl, h.row.lt, fun i c hi => ?_⟩⟩
 obtain ⟨a1, c1, a2, c2, e0, e1, e2, e3, e4, e5, e6, _⟩ := h.at_ i c hi
 have hm := List.mem_of_getElem? hi
 rw [Nat.zero_add]
 exact ⟨_, _, _, _, e0, e1, e2, e3, e4, e5.sl2 (hw c hm).1 (by have := (hl c hm).1; omega), e6.sl2 (hw c hm).2 (by have := (hl c hm).2; omega)⟩
def Oc9 (w : World) (B : Nat) (ao : Option Addr) (n cap : Nat) (cs : List Cl) (P : Nat → Nat) : Prop := n = cs.length ∧ ((ao = none ∧ n = 0 ∧ cap = 0 ∧ B ≤ P 0) ∨ ∃ g, ao = some ⟨g, 0, none⟩ ∧ cap = n ∧ OwnG w B g cs P)
theorem Oc9.k3 {w w' : World} {B : Nat} {ao : Option Addr} {n cap : Nat} {cs : List Cl} {P : Nat → Nat} (h : Oc9 w B ao n cap cs P) (hk : K3 w w') : Oc9 w' B ao n cap cs P := ⟨h.1, h.2.imp id fun ⟨g, e, c, o⟩ => ⟨g, e, c, OwnG.k3 o hk⟩⟩
theorem Oc9.low {w : World} {B C : Nat} {ao : Option Addr} {n cap : Nat} {cs : List Cl} {P : Nat → Nat} (h : Oc9 w B ao n cap cs P) (hC : C ≤ B) : Oc9 w C ao n cap cs P := ⟨h.1, h.2.imp (fun ⟨a, b, c, d⟩ => ⟨a, b, c, zN hC d⟩) fun ⟨g, e, c, o⟩ => ⟨g, e, c, ⟨o.row, zN hC o.hg, zN hC o.p0, o.up, o.top, o.at_⟩⟩⟩
theorem Oc9.p0 {w : World} {B : Nat} {ao : Option Addr} {n cap : Nat} {cs : List Cl} {P : Nat → Nat} (h : Oc9 w B ao n cap cs P) : B ≤ P 0 := by
 rcases h.2 with ⟨_, _, _, h⟩ | ⟨_, _, _, o⟩
 ·exact h
 ·exact o.p0
theorem Oc9.slc {w : World} {B : Nat} {ao : Option Addr} {n cap : Nat} {cs : List Cl} {P : Nat → Nat} (h : Oc9 w B ao n cap cs P) (hw : ∀ c ∈ cs, c.Wf) (hl : ∀ c ∈ cs, c.key.length ≤ 65536 ∧ c.val.length ≤ 65536) (hn : cs.length ≤ 65536) : SlC w ao n cap cs := by
 obtain ⟨e, h⟩ := h
 rcases h with ⟨rfl, rfl, rfl, _⟩ | ⟨g, rfl, rfl, o⟩
 ·have : cs = [] := List.length_eq_zero_iff.1 e.symm
  subst this
  exact ⟨rfl, Lr, zq, fun _ => rfl, .inl rfl⟩
 ·subst e
  exact o.slc hw hl zq
theorem Oc9.ownP {w : World} {B t : Nat} {co : Option Addr} {cn cc : Nat} {cs : List Cl} {P : Nat → Nat} (h : Oc9 w B co cn cc cs P) (hl : cs.length ≤ 65536) : OwnP w B (.slice co cn cc) cn 0 t := by
 obtain ⟨e, h⟩ := h
 rcases h with ⟨rfl, rfl, rfl, _⟩ | ⟨g, rfl, rfl, o⟩
 ·exact ⟨[], World.ownsRow_nil _ _ _ _, fun a ha => zq⟩
 ·obtain ⟨cur, hr, hs⟩ := o.row
  refine ⟨cur.toList, ⟨by rw [Array.length_toList, hs, e]; omega, .inr ⟨g, _, cur, rfl, o.hg, hr, Lr, ?_, by rw [hs, e]; omega, ?_⟩⟩, fun a ha => zq⟩
  ·unfold maxLen
   omega
  ·rw [List.take_of_length_le]
   rw [Array.length_toList, hs, e]
   omega
def RgG (v : Value) (lo hi : Nat) : Prop := ∀ z, v.ownBlock = some z → lo ≤ z ∧ z < hi
def Got (w : World) (lo hi : Nat) (co : Option Addr) (cn cc : Nat) (cs : List Cl) : Prop := ∃ P, Oc9 w lo co cn cc cs P ∧ P cn ≤ hi ∧ RgG (.slice co cn cc) lo hi
theorem Got.k3 {w w' : World} {lo hi : Nat} {co : Option Addr} {cn cc : Nat} {cs : List Cl} (h : Got w lo hi co cn cc cs) (hk : K3 w w') : Got w' lo hi co cn cc cs := by
 obtain ⟨P, h1, h2⟩ := h
 exact ⟨P, h1.k3 hk, h2⟩
theorem Got.on {w w' : World} {lo hi : Nat} {co : Option Addr} {cn cc : Nat} {cs : List Cl} (h : Got w lo hi co cn cc cs) (hb : Below w.heap.size w w') : Got w' lo hi co cn cc cs := h.k3 (K3.of_below hb)
theorem Got.nil {w : World} {lo hi : Nat} (h : lo ≤ hi) : Got w lo hi none 0 0 [] := ⟨fun _ => lo, ⟨rfl, .inl ⟨rfl, rfl, rfl, Lr⟩⟩, h, fun z hz => by cases hz⟩
theorem Got.low {w : World} {lo hi lo2 : Nat} {co : Option Addr} {cn cc : Nat} {cs : List Cl} (h : Got w lo hi co cn cc cs) (hl : lo2 ≤ lo) : Got w lo2 hi co cn cc cs := by
 obtain ⟨P, h1, h2, h3⟩ := h
 exact ⟨P, h1.low hl, h2, fun z hz => ⟨zN hl (h3 z hz).1, (h3 z hz).2⟩⟩
theorem Got.slc {w : World} {lo hi : Nat} {co : Option Addr} {cn cc : Nat} {cs : List Cl} (h : Got w lo hi co cn cc cs) (hw : ∀ c ∈ cs, c.Wf) (hl : ∀ c ∈ cs, c.key.length ≤ 65536 ∧ c.val.length ≤ 65536) (hn : cs.length ≤ 65536) : SlC w co cn cc cs := by
 obtain ⟨P, h1, _⟩ := h
 exact h1.slc hw hl hn
theorem Got.cf {w w' : World} {F : Nat → Prop} {lo hi : Nat} {co : Option Addr} {cn cc : Nat} {cs : List Cl} (h : Got w lo hi co cn cc cs) (hc : Cf F w w') (hf : ∀ z, F z → z < lo) : Got w' lo hi co cn cc cs := by
 obtain ⟨P, ⟨e, h1⟩, h2⟩ := h
 refine ⟨P, ⟨e, h1.imp id fun ⟨g, e1, c, o⟩ => ⟨g, e1, c, ?_⟩⟩, h2⟩
 obtain ⟨cur, hr, hs⟩ := o.row
 have keep : ∀ k, lo ≤ k → k < w.heap.size → w'.heap[k]? = w.heap[k]? := fun k hk hl => hc.block k hl (fun hF => by have := hf k hF; omega)
 have eg := keep g o.hg (zaf hr)
 have A : ∀ i, i ≤ cs.length → lo ≤ P i := by
  intro i
  induction i with
  | zero => intro _; exact o.p0
  | succ i ih => intro hi; exact zN (ih zq) (o.up i zq)
 refine ⟨⟨cur, eg.trans hr, hs⟩, o.hg, o.p0, o.up, zN o.top hc.size, fun i d hd => ?_⟩
 obtain ⟨a1, c1, a2, c2, h0, h1, h2, h3, h4, h5, h6, h7⟩ := o.at_ i d hd
 have B := (zH.1 hd).1
 have hP := A i zq
 exact ⟨a1, c1, a2, c2, (World.cell?_of_block (a := ⟨g, _, none⟩) eg).trans h0, (World.cell?_of_block (a := ⟨g, _, none⟩) eg).trans h1, (World.cell?_of_block (a := ⟨g, _, none⟩) eg).trans h2, (World.cell?_of_block (a := ⟨g, _, none⟩) eg).trans h3, (World.cell?_of_block (a := ⟨g, _, none⟩) eg).trans h4, h5.cfX hc (fun z hz hF => by have := (h5.blk hz).1; have := hf z hF; omega), h6.cfX hc (fun z hz hF => by have := (h6.blk hz).1; have := hf z hF; omega), h7⟩
theorem Six.VB.farG {V : List Value} {U : Nat} {v : Value} {w : World} {l : List Int} (h : VB V U) (ho : OwnB w U v l) : ∀ (t : Nat) (u : Value), V[t]? = some u → u.ownBlock = none ∨ u.ownBlock ≠ v.ownBlock := by
 intro t u ht
 cases e : u.ownBlock with
 | none => exact .inl rfl
 | some z =>
  right
  intro e2
  have h1 := h t u ht z e
  have h2 := (ho.blk e2.symm).1
  omega
namespace Six
theorem takeAll9 (w : World) (B bk : Nat) (lv v : Value) (V LV : List Value) (D : Nat → List Int) (U : Nat) (ao : Option Addr) (n cap : Nat) (cs : List Cl) (P : Nat → Nat) (h : Bo9 w B bk lv v V D) (hY : OwnY w B lv LV) (hn : V.length + 2 * n ≤ 4000000) (B9 : n ≤ 100000) (hL : LV.length ≤ 1000) (hB : B ≤ w.heap.size) (Z : B ≤ bk)
  (hc : Oc9 w B ao n cap cs P) (hw : ∀ d ∈ cs, d.Wf) (hl : ∀ d ∈ cs, d.key.length ≤ 65536 ∧ d.val.length ≤ 65536) (hV : VB V U) (hU : U ≤ P 0) :
  Calls Tryz.prog 10 #[.pointer (some ⟨bk, 0, none⟩), .slice ao n cap] w fun e w' => e = .returned (.tuple #[]) ∧ ∃ lv' v' V' D', Hid (Bo9 w' B bk lv' v' V' D') ∧ Hid (OwnY w' B lv' (LV ++ [.slice ao n cap])) ∧ Hid (VB V' (P n) ∧ V'.length = V.length + 2 * n) ∧ Hid (Cf (B ≤ ·) w w') ∧ Hid (K3 w w') := by
 have A0 := zaa h
 have HY := zaa hY
 have HC := zaa hc
 have HW := zaa hw
 have HL := zaa hl
 have HV := zaa (hV.up hU)
 have HN := zaa hn
 have C0 : (n : Int) ≤ 100000 := zq
 clear h hY hc hw hl hV hU hn
 go_enter Tryz.func10, Tryz.ntmps10
 go_wp2_with fail
 go_loopw [4] (fun x wr => ∃ (k : Nat) (v' : Value) (V' : List Value) (D' : Nat → List Int), k ≤ n ∧ x = .int .i64 (k : Int) ∧ Hid (Bo9 wr B bk lv v' V' D') ∧ Hid (VB V' (P k) ∧ V'.length = V.length + 2 * k) ∧ Hid (Cf (B ≤ ·) w wr) ∧ Hid (KT w wr)) (fun x _ => n - (intOf x).toNat)
 case atStart => exact ⟨0, v, V, D, zq, rfl, A0, zaa ⟨HV.out, rfl⟩, zaa (Cf.refl _ _), zaa (KT.of_below Br)⟩
 case round =>
  obtain ⟨k, v1, V1, D1', hk, rfl, H, C, E, F⟩ := hrel
  by_cases L : k < n
  ·have B8 : (k : Int) < (n : Int) := zq
   obtain ⟨g, rfl, rfl, I⟩ : ∃ g, ao = some ⟨g, 0, none⟩ ∧ cap = n ∧ OwnG w B g cs P := by
    rcases HC.out.2 with ⟨_, h0, _⟩ | h0
    ·omega
    ·exact h0
   have O : k < cs.length := by rw [← HC.out.1]; exact L
   obtain ⟨d, hd⟩ : ∃ d, cs[k]? = some d := ⟨_, zI O⟩
   obtain ⟨x1, k1, x2, k2, c0, c1, c2, c3, c4, b1, b2, q3, q4, q5⟩ := (OwnG.k3 I F.out.k3).at_ k d hd
   have K := List.mem_of_getElem? hd
   obtain ⟨w1, w2⟩ := HW.out d K
   obtain ⟨l1, l2⟩ := HL.out d K
   have A1 := I.up k O
   have Q : B ≤ P k := by
    have : ∀ j, j ≤ k → B ≤ P j := by
     intro j
     induction j with
     | zero => intro _; exact I.p0
     | succ j ih => intro hj; exact zN (ih zq) (I.up j zq)
    exact this k Lr
   have A2 := C.out.2
   have J := HN.out
   have HT := zaa (take6 wr B bk lv v1 V1 D1' x1 x2 d.key.length k1 d.val.length k2 d.kd d.pg d.ct d.key d.val H.out zq (zN hB E.out.size) Z (b1.low Q) w1 l1 (b2.low Q) w2 l2 (C.out.1.farG b1) (fun t u ht => by
    by_cases e : t < V1.length
    ·rw [zL e] at ht
     exact C.out.1.farG b2 t u ht
    ·have L := (zH.1 ht).1
     rw [zG] at L
     simp only [List.length_cons, List.length_nil] at L
     obtain rfl : t = V1.length := zq
     rw [List.getElem?_concat_length] at ht
     cases ht
     exact q5))
   have A3 : Hid (VB (V1 ++ [Value.slice x1 d.key.length k1] ++ [Value.slice x2 d.val.length k2]) (P (k + 1)) ∧ (V1 ++ [Value.slice x1 d.key.length k1] ++ [Value.slice x2 d.val.length k2]).length = V.length + 2 * (k + 1)) := zaa ⟨((C.out.1.up A1).snoc q3).snoc q4, by
    rw [zG, zG, A2]
    simp only [List.length_cons, List.length_nil]
    omega⟩
   obtain ⟨kn, M⟩ : ∃ kn, d.key.length = kn := ⟨_, rfl⟩
   obtain ⟨vn, J⟩ : ∃ vn, d.val.length = vn := ⟨_, rfl⟩
   obtain ⟨kd', R⟩ : ∃ kd', d.kd = kd' := ⟨_, rfl⟩
   obtain ⟨pg, T⟩ : ∃ pg, d.pg = pg := ⟨_, rfl⟩
   obtain ⟨ct, W⟩ : ∃ ct, d.ct = ct := ⟨_, rfl⟩
   rw [M] at c0
   rw [R] at c1
   rw [J] at c2
   rw [T] at c3
   rw [W] at c4
   rw [M, R, J, T, W] at HT
   rw [M, J] at A3
   clear I O hd b1 b2 q3 q4 q5 K w1 w2 l1 l2 A1 Q A2 M J R T W
   go_wp2_with (go_at_call 24; refine HT.out.mono ?_; rintro e w2 ⟨rfl, v2, D2', B0, A4, A5⟩; refine Hid.out ?_)
   apply zaa
   have B1 : Hid (Cf (B ≤ ·) w w2) := zaa (E.out.go A4.out)
   have B2 : Hid (KT w w2) := zaa (F.out.trans A5.out)
   clear HT E A4 F A5 H C c0 c1 c2 c3 c4
   go_wp2
   go_roundw
   case rel => exact ⟨k + 1, v2, _, D2', zq, by go_num, B0, A3, B1, B2⟩
   case measure => simp [intOf]; omega
  ·obtain rfl : k = n := zq
   have C1 : ¬ (k : Int) < (k : Int) := zq
   have A6 := H.out.box
   have c1 : wr.cell? ⟨bk, 1, none⟩ = some lv := by rw [cell_of_row _ _ 1 _ _ _ A6]; rfl
   obtain ⟨x, hx⟩ : ∃ x, wr.alloc (.cells #[.slice ao k cap] 29) = x := ⟨_, rfl⟩
   have A : Below wr.heap.size wr x := by rw [← hx]; exact zab Br Lr _
   have A7 : x.cell? ⟨wr.heap.size, 0, none⟩ = some (.slice ao k cap) := by rw [← hx]; simp
   have HX := zaa (H.out.on A)
   have N : Hid (OwnY x B lv LV) := zaa (OwnY.on (row_kt HY.out F.out y_ne6 y_neX) A)
   have B3 : B ≤ x.heap.size := zN hB (zN E.out.size A.size)
   have A8 : Hid (Cf (B ≤ ·) w x) := zaa (E.out.go (Cf.of_below A))
   have A9 : Hid (K3 w x) := zaa (F.out.k3.trans (K3.of_below A))
   clear H E F A6 A A0 HY
   go_wp2_with (at_builtin; refine app_y _ rfl _ _ rfl B LV lv (.slice ao k cap) rfl rfl N.out wr.heap.size rfl A7 zq B3 ?_; refine Hid.out ?_)
   apply zaa
   intro v' w1 X Y
   obtain ⟨vo, vn, vc, rfl⟩ : ∃ vo vn vc, v' = .slice vo vn vc := by
    obtain ⟨vo, vc, e, _⟩ := X.cells
    exact ⟨vo, _, vc, e⟩
   obtain ⟨z1, z2, z3, z4⟩ := HX.out.lists N.out Y X Z
   have B4 := zaa z1
   have B5 := zaa z2
   have B6 := zaa (A9.out.trans z3)
   have B7 := zaa (A8.out.go z4)
   have G : w1.heap[bk]? = some (.cells #[v1, lv] 42 (0, 0)) := (Y.grow.block bk (zaf HX.out.box) (fun e => N.out.noty HX.out.box bk_neY e.symm)).trans HX.out.box
   have c2 : ∃ z, w1.cell? ⟨bk, 1, none⟩ = some z := ⟨lv, by rw [cell_of_row _ _ 1 _ _ _ G]; rfl⟩
   obtain ⟨z, c2⟩ := c2
   have f1 : w1.frozen? ⟨bk, 1, none⟩ = false := by simp [World.frozen?, G]
   clear X Y hx A7 c1 z1 z2 z3 z4 G HX N A8 A9
   go_wp2
   go_end0
   exact ⟨rfl, _, v1, V1, D1', B4, B5, C, B7, B6⟩
end Six
end Go.Proofs.YtbkhjeacmmbabaaGreatDoor
namespace Go.Proofs.YtbkhjeacmmbabaaGreatDoor
set_option maxRecDepth 100000
set_option maxHeartbeats 4000000
open Go.RowKit
theorem Po.low {w : World} {B C a : Nat} {k : Int} {n : Nat} {vb vs : Value} {cs : List Cl} (h : Po w C a k n vb vs cs) (hB : B ≤ C) : Po w B a k n vb vs cs := ⟨h.row, h.body.low hB, h.starts.lowN hB⟩
def NOpenP (l : List Int) (w : World) (e : Ending) (w' : World) : Prop :=
 ∃ v c, e = .returned (.tuple #[v, .int .i64 c]) ∧ Hid (Below w.heap.size w w') ∧ Hid ((v = .nilIface ∧ c = 60 ∧ ¬ ∃ cs, Is (l.getD 0 0) l.length cs l) ∨ ∃ a bo bn bc so sn sc cs, v = iP a ∧ c = 0 ∧ w.heap.size ≤ a ∧ Is (l.getD 0 0) l.length cs l ∧ (∀ c ∈ cs, c.Wf) ∧ Po w' w.heap.size a (l.getD 0 0) l.length (.slice bo bn bc) (.slice so sn sc) cs)
theorem NOpenP.from {l : List Int} {w u w' : World} {e : Ending} (h : NOpenP l u e w') (hb : Below w.heap.size w u) : NOpenP l w e w' := by
 obtain ⟨v, c, rfl, HB, HQ⟩ := h
 refine ⟨v, c, rfl, zaa (zae hb Lr HB.out), zaa ?_⟩
 rcases HQ.out with h | ⟨a, bo, bn, bc, so, sn, sc, cs, h1, h2, h3, h4, h5, h6⟩
 ·exact .inl h
 ·exact .inr ⟨a, bo, bn, bc, so, sn, sc, cs, h1, h2, zN hb.size h3, h4, h5, h6.low hb.size⟩
theorem openP_any (ao : Option Addr) (n cap : Nat) (l : List Int) (w : World) (hs : Sl w ao n cap l) (ht : Tab w) (h0 : 1 < w.heap.size) : Calls Tryz.prog 40 #[.slice ao n cap] w (NOpenP l w) := by
 have HN := zaa (open_po ao n cap l w hs ht h0)
 clear hs ht h0
 go_enter Tryz.func40, Tryz.ntmps40
 go_wp2_with (go_at_call 41; refine HN.out.mono ?_; rintro e w1 ⟨po, c, rfl, HB, HQ⟩; refine Hid.out ?_)
 apply zaa
 clear HN
 rcases HQ.out with ⟨rfl, rfl, hn⟩ | ⟨a, bo, bn, bc, so, sn, sc, cs, rfl, rfl, h1, h2, h3, h4, h5⟩
 ·have H1 := zaa hn
  clear HQ hn
  go_wp2_with (go_at_call 38; refine zad (asP_no _ _ zd _) ?_)
  go_ret2
  exact ⟨_, _, rfl, HB, zaa (.inl ⟨rfl, rfl, H1.out⟩)⟩
 ·have H1 := zaa (And.intro h1 (And.intro h2 (And.intro h3 h5.2)))
  clear HQ h1 h2 h3 h4 h5
  go_wp2_with (go_at_call 38; refine zad (asP_yes _ _) ?_)
  go_ret2
  obtain ⟨h1, h2, h3, h4⟩ := H1.out
  exact ⟨_, _, rfl, HB, zaa (.inr ⟨a, bo, bn, bc, so, sn, sc, cs, rfl, rfl, h1, h2, h3, h4⟩)⟩
theorem nopen_1 (ao : Option Addr) (n cap : Nat) (l : List Int) (w : World) (hs : Sl w ao n cap l) (ht : Tab w) (h0 : 1 < w.heap.size) (he : egO l = 1) : Calls Tryz.prog 5 #[.slice ao n cap] w (NOpenP l w) := by
 have HE := zaa (zdg ao n cap l w hs)
 rw [he] at HE
 have HL := zaa (layout_1 w)
 have HM : Hid (∀ u, Below w.heap.size w u → Calls Tryz.prog 40 #[.slice ao n cap] u (NOpenP l u)) := zaa fun u hu => openP_any ao n cap l u (hs.on Lr hu) (ht.on hu h0) (zO h0 hu.size)
 clear hs ht h0 he
 go_enter Tryz.func5, Tryz.ntmps5
 go_wp2_with (first | (go_at_call 18; refine zad HE.out ?_) | (go_at_call 17; refine HL.out.mono ?_; rintro e w1 ⟨rfl, A⟩) | (go_at_call 40; refine (HM.out _ (zab A.out Lr _)).mono ?_; rintro e w2 ⟨v, c, rfl, B, C⟩; refine Hid.out ?_))
 apply zaa
 go_wp2
 go_ret2
 exact NOpenP.from ⟨v, c, rfl, B, C⟩ (zab A.out Lr _)
theorem nopen_0 (ao : Option Addr) (n cap : Nat) (l : List Int) (w : World) (hs : Sl w ao n cap l) (h1 : ¬ egO l = 1) (h2 : ¬ egO l = 2) : Calls Tryz.prog 5 #[.slice ao n cap] w fun e w' => e = .returned (.tuple #[.nilIface, .int .i64 60]) ∧ Hid (Below w.heap.size w w') := by
 have HE := zaa (zdg ao n cap l w hs)
 have HL := zaa (layout_0 w (egO l) h1 h2)
 generalize egO l = x at *
 clear hs h1 h2
 go_enter Tryz.func5, Tryz.ntmps5
 go_wp2_with (first | (go_at_call 18; refine zad HE.out ?_) | (go_at_call 17; refine HL.out.mono ?_; rintro e w1 ⟨rfl, A⟩))
 go_ret2
 exact ⟨rfl, zaa (zab A.out Lr _)⟩
end Go.Proofs.YtbkhjeacmmbabaaGreatDoor
