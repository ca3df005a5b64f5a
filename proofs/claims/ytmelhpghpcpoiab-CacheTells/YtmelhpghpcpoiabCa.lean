/- The cache: its map of links, its row. -/
import Derived.Test.YtmelhpghpcpoiabPl3
import Derived.Maps.OwnSet
namespace Go.Proofs.Ytmelhpghpcpoiab
open Go.RowKit Go.Maps

/-- A link's block as a pointer. -/
abbrev pt (b : Nat) : Value := .pointer (some ⟨b, 0, none⟩)
/-- What lies in the map reads as the link's block; nil as -1. -/
def mR (v : Value) : Option (DataW Unit × List MemPlace) :=
  match v with
  | .pointer none => some (.lit (.int .i64 (-1)), [])
  | .pointer (some ⟨b, 0, none⟩) => some (.lit (.int .i64 (b : Int)), [])
  | _ => none
set_option maxRecDepth 100000 in
theorem mR_mk (b : Nat) : mR (pt b) = some (.lit (.int .i64 (b : Int)), []) := rfl
set_option maxRecDepth 100000 in
theorem mR_inv {v : Value} {b : Nat} {ps : List MemPlace} (h : mR v = some (.lit (.int .i64 (b : Int)), ps)) : v = pt b := by
  unfold mR at h
  split at h
  · simp only [Option.some.injEq, Prod.mk.injEq, DataW.lit.injEq, Lit.int.injEq] at h
    omega
  · rename_i b'
    simp only [Option.some.injEq, Prod.mk.injEq, DataW.lit.injEq, Lit.int.injEq] at h
    obtain rfl : b' = b := by omega
    rfl
  · cases h
set_option maxRecDepth 100000 in
theorem mR_inv_nil {v : Value} {ps : List MemPlace} (h : mR v = some (.lit (.int .i64 (-1)), ps)) : v = .pointer none := by
  unfold mR at h
  split at h
  · rfl
  · simp only [Option.some.injEq, Prod.mk.injEq, DataW.lit.injEq, Lit.int.injEq] at h
    omega
  · cases h
set_option maxRecDepth 100000 in
theorem kI : Keyed Try.prog 3 := int_keyed Try.underlying3
set_option maxRecDepth 100000 in
theorem zL (w : World) : (zeroValue 52).run Try.prog w = .ok (.pointer none) w := by kernel_rfl
/-- Block m is a map of links that reads as D. -/
abbrev MapIs (w : World) (m n : Nat) (D : DataW Unit) : Prop := w.ownsMap Try.prog 3 mR m n D
set_option maxRecDepth 100000 in
theorem look_some {w : World} {m n : Nat} {D : DataW Unit} (h : MapIs w m n D) {k : Int} (hk : (Lit.int .i64 k).wf = true) {b : Nat} (hat : D.atKey (.int .i64 k) (.lit (.int .i64 (-1))) = .lit (.int .i64 (b : Int))) :
    (Instr.lookup 51 (.map (some m)) (.int .i64 k) false).run Try.prog w = .ok (pt b) w := by
  obtain ⟨v, ps, hr, hv⟩ := h.lookup kI Try.underlying51 (zL w) (zd := .lit (.int .i64 (-1))) (zp := []) rfl (keyOf_int_mk Try.underlying3 hk)
  rw [hat] at hv
  rw [hr, mR_inv hv]
set_option maxRecDepth 100000 in
theorem look_none {w : World} {m n : Nat} {D : DataW Unit} (h : MapIs w m n D) {k : Int} (hk : (Lit.int .i64 k).wf = true) (hat : D.atKey (.int .i64 k) (.lit (.int .i64 (-1))) = .lit (.int .i64 (-1))) :
    (Instr.lookup 51 (.map (some m)) (.int .i64 k) false).run Try.prog w = .ok (.pointer none) w := by
  obtain ⟨v, ps, hr, hv⟩ := h.lookup kI Try.underlying51 (zL w) (zd := .lit (.int .i64 (-1))) (zp := []) rfl (keyOf_int_mk Try.underlying3 hk)
  rw [hat] at hv
  rw [hr, mR_inv_nil hv]
set_option maxRecDepth 100000 in
theorem len_is {w : World} {m n : Nat} {D : DataW Unit} (h : MapIs w m n D) (ty : TypeId) : (Builtin.len_ #[51] ty #[.map (some m)]).run Try.prog w = .ok (.int .i64 (Maps.size D)) w :=
  h.len Try.underlying51 ty
set_option maxRecDepth 100000 in
theorem MapIs.ch {w u : World} {m n : Nat} {D : DataW Unit} {H : Nat → Prop} (h : MapIs w m n D) (hc : Ch H w u) (hm : ¬ H m) : MapIs u m n D := by
  have hlt := World.ownsMap.lt h
  obtain ⟨es, clock, hb, F, hs, hD⟩ := h
  exact ⟨es, clock, (hc.block m hlt hm).trans hb, F, hs, hD⟩
/-- The cells of the cache's struct; of a link. -/
def cC (a : Nat) (fr : Int) (m : Nat) (o y : Value) (h mi ev : Int) : List Value := [pt a, .int .i64 fr, .map (some m), o, y, .int .i64 h, .int .i64 mi, .int .i64 ev]
def cL (n : Int) (b : Value) (dt : Bool) (pins : Int) (o y : Value) : List Value := [.int .i64 n, b, .bool dt, .int .i64 pins, o, y]
abbrev tC : TypeId := 56
abbrev tL : TypeId := 63

/-- Block b holds the cells cs. -/
def Hs (w : World) (b : Nat) (cs : List Value) (t : TypeId) : Prop := w.heap[b]? = some (.cells cs.toArray t (0, 0))
set_option maxRecDepth 100000 in
theorem Hs.self {w : World} {b i : Nat} {cs : List Value} {t : TypeId} (h : Hs w b cs t) (u : Value) : Hs (w.setCell ⟨b, i, none⟩ u) b (cs.set i u) t := heap_setCell_self h
set_option maxRecDepth 100000 in
theorem Hs.other {w : World} {b k i : Nat} {cs : List Value} {t : TypeId} (h : Hs w b cs t) (hk : b ≠ k) (u : Value) : Hs (w.setCell ⟨k, i, none⟩ u) b cs t := (Below.heap_setCell _ _ _ _ hk).trans h
set_option maxRecDepth 100000 in
theorem Hs.ch {w u : World} {b : Nat} {cs : List Value} {t : TypeId} {H : Nat → Prop} (h : Hs w b cs t) (hc : Ch H w u) (hb : ¬ H b) : Hs u b cs t := (hc.block b (lt_of_some h) hb).trans h
set_option maxRecDepth 100000 in
theorem Hs.lt {w : World} {b : Nat} {cs : List Value} {t : TypeId} (h : Hs w b cs t) : b < w.heap.size := lt_of_some h
set_option maxRecDepth 100000 in
theorem Hs.cell {w : World} {b : Nat} {cs : List Value} {t : TypeId} (h : Hs w b cs t) (i : Nat) : w.cell? ⟨b, i, none⟩ = cs[i]? := cell_of_row h
set_option maxRecDepth 100000 in
theorem Hs.free {w : World} {b : Nat} {cs : List Value} {t : TypeId} (h : Hs w b cs t) (i : Nat) : w.frozen? ⟨b, i, none⟩ = false := free_of_row h
set_option maxRecDepth 100000 in
theorem Ch.set {F : Nat → Prop} {w u : World} (h : Ch F w u) {b i : Nat} (hp : F b) (v : Value) : Ch F w (u.setCell ⟨b, i, none⟩ v) := h.trans (Ch.setCell u (p := ⟨b, i, none⟩) hp v) fun _ _ h => h
set_option maxRecDepth 100000 in
theorem size_setCell (w : World) (p : Addr) (v : Value) : (w.setCell p v).heap.size = w.heap.size := by simp [World.setCell]

set_option maxRecDepth 100000 in
/-- A link, at the young end of a row that is empty. -/
theorem add_nil (w : World) (c L a : Nat) (fr h mi ev : Int) (m : Nat) (o : Value) (n : Int) (b : Value) (dt : Bool) (pins : Int) (lo ly : Value) (hc : Hs w c (cC a fr m o (.pointer none) h mi ev) tC)
    (hl : Hs w L (cL n b dt pins lo ly) tL) (hne : c ≠ L) :
    Calls Try.prog 33 #[.pointer (some ⟨c, 3, none⟩), pt L] w fun e u => e = .returned (.tuple #[]) ∧ Hs u c (cC a fr m (pt L) (pt L) h mi ev) tC ∧ Hs u L (cL n b dt pins (.pointer none) ly) tL ∧ Ch (fun k => k = c ∨ k = L) w u ∧ u.heap.size = w.heap.size := by
  have c3 : w.cell? ⟨c, 3, none⟩ = some o := hc.cell 3
  have c4 : w.cell? ⟨c, 4, none⟩ = some (.pointer none) := hc.cell 4
  have l4 : w.cell? ⟨L, 4, none⟩ = some lo := hl.cell 4
  have f3 := hc.free 3
  have f4 := hc.free 4
  have g4 := hl.free 4
  have hne' : L ≠ c := fun e => hne e.symm
  have HC := hidden hc
  have HL := hidden hl
  clear hc hl
  go_enter Try.func33, Try.ntmps33
  go_wp2
  go_end0
  exact ⟨rfl, ((HC.out.other hne _).self _).self _, ((HL.out.self _).other hne' _).other hne' _, (((Ch.refl _ w).set (.inr rfl) _).set (.inl rfl) _).set (.inl rfl) _, by simp [World.setCell]⟩
set_option maxRecDepth 100000 in
/-- The only link of a row, taken out. -/
theorem remove_one (w : World) (c L a : Nat) (fr h mi ev : Int) (m : Nat) (o y : Value) (n : Int) (b : Value) (dt : Bool) (pins : Int) (hc : Hs w c (cC a fr m o y h mi ev) tC)
    (hl : Hs w L (cL n b dt pins (.pointer none) (.pointer none)) tL) (hne : c ≠ L) :
    Calls Try.prog 34 #[.pointer (some ⟨c, 3, none⟩), pt L] w fun e u => e = .returned (.tuple #[]) ∧ Hs u c (cC a fr m (.pointer none) (.pointer none) h mi ev) tC ∧ Hs u L (cL n b dt pins (.pointer none) (.pointer none)) tL ∧ Ch (fun k => k = c ∨ k = L) w u ∧ u.heap.size = w.heap.size := by
  have c3 : w.cell? ⟨c, 3, none⟩ = some o := hc.cell 3
  have c4 : w.cell? ⟨c, 4, none⟩ = some y := hc.cell 4
  have l4 : w.cell? ⟨L, 4, none⟩ = some (.pointer none) := hl.cell 4
  have l5 : w.cell? ⟨L, 5, none⟩ = some (.pointer none) := hl.cell 5
  have f3 := hc.free 3
  have f4 := hc.free 4
  have g4 := hl.free 4
  have g5 := hl.free 5
  have hne' : L ≠ c := fun e => hne e.symm
  have HC := hidden hc
  have HL := hidden hl
  clear hc hl
  go_enter Try.func34, Try.ntmps34
  go_wp2
  go_end0
  exact ⟨rfl, (((HC.out.self _).self _).other hne _).other hne _, (((HL.out.other hne' _).other hne' _).self _).self _, ((((Ch.refl _ w).set (.inl rfl) _).set (.inl rfl) _).set (.inr rfl) _).set (.inr rfl) _, by simp [World.setCell]⟩
set_option maxRecDepth 100000 in
/-- The only link of a row, used now. -/
theorem renew_one (w : World) (c L a : Nat) (fr h mi ev : Int) (m : Nat) (n : Int) (b : Value) (dt : Bool) (pins : Int) (hc : Hs w c (cC a fr m (pt L) (pt L) h mi ev) tC)
    (hl : Hs w L (cL n b dt pins (.pointer none) (.pointer none)) tL) (hne : c ≠ L) :
    Calls Try.prog 23 #[.pointer (some ⟨c, 3, none⟩), pt L] w fun e u => e = .returned (.tuple #[]) ∧ Hs u c (cC a fr m (pt L) (pt L) h mi ev) tC ∧ Hs u L (cL n b dt pins (.pointer none) (.pointer none)) tL ∧ Ch (fun k => k = c ∨ k = L) w u ∧ u.heap.size = w.heap.size := by
  have h1 := remove_one w c L a fr h mi ev m _ _ n b dt pins hc hl hne
  go_enter Try.func23, Try.ntmps23
  go_wp2_with (first
    | (go_at_call 34; refine h1.mono ?_; rintro e w1 ⟨rfl, c1, l1, k1, s1⟩; have h2 := add_nil w1 c L a fr h mi ev m _ n b dt pins _ _ c1 l1 hne)
    | (go_at_call 33; refine h2.mono ?_; rintro e w2 ⟨rfl, c2, l2, k2, s2⟩))
  go_end0
  exact ⟨rfl, c2, l2, k1.trans k2 fun _ _ h => h, s2.trans s1⟩
end Go.Proofs.Ytmelhpghpcpoiab
