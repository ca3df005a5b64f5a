import Derived.Test.YtjpmfgoodcldcaaGreatDoorJ08
import Derived.Maps.OwnSet
import Derived.Test.YtjpmfgoodcldcaaGreatDoorJ11
import Derived.Test.YtjpmfgoodcldcaaGreatDoorJ06
import Derived.Lib.LazyBuf
namespace Go.Proofs.YtjpmfgoodcldcaaGreatDoor
set_option maxRecDepth 100000
open Go.RowKit Go.Maps
theorem Cf.turned {F : Nat → Prop} {w w' : World} {m : Nat} (h : w.mapTurned w' m) (hm : F m) : Cf F w w' := by
 have hg := h.grown
 exact ⟨hg.os, hg.tape, hg.output, hg.size, fun k hk hf => hg.block k hk (fun e => by cases e; exact hf hm)⟩
structure Pf where
 g : Nat
 c : Nat
 l : List Int
def mR (v : Value) : Option (DataW Unit × List MemPlace) :=
 match v with
 | .slice none 0 0 => some (.lit (.int .i64 (-1)), [])
 | .slice (some ⟨b, 0, none⟩) n c => some (.agg [.lit (.int .i64 (b : Int)), .lit (.int .i64 (n : Int)), .lit (.int .i64 (c : Int))], [])
 | _ => none
def pfD (f : Pf) : DataW Unit := .agg [.lit (.int .i64 (f.g : Int)), .lit (.int .i64 (f.l.length : Int)), .lit (.int .i64 (f.c : Int))]
def pfV (f : Pf) : Value := .slice (some ⟨f.g, 0, none⟩) f.l.length f.c
theorem mR_mk (f : Pf) : mR (pfV f) = some (pfD f, []) := rfl
theorem mR_inv {v : Value} {f : Pf} {ps : List MemPlace} (h : mR v = some (pfD f, ps)) : v = pfV f := by
 unfold mR pfD at h
 split at h
 ·simp at h
 ·rename_i b n c
  simp only [Option.some.injEq, Prod.mk.injEq, DataW.agg.injEq, List.cons.injEq, DataW.lit.injEq, Lit.int.injEq] at h
  obtain ⟨⟨⟨_, h1⟩, ⟨_, h2⟩, ⟨_, h3⟩, _⟩, _⟩ := h
  unfold pfV
  rw [show b = f.g by omega, show n = f.l.length by omega, show c = f.c by omega]
 ·cases h
theorem mR_inv_nil {v : Value} {ps : List MemPlace} (h : mR v = some (.lit (.int .i64 (-1)), ps)) : v = .slice none 0 0 := by
 unfold mR at h
 split at h
 ·rfl
 ·simp at h
 ·cases h
theorem kI : Keyed Tryz.prog 3 := int_keyed Tryz.underlying3
theorem zL (w : World) : (zeroValue 30).run Tryz.prog w = .ok (.slice none 0 0) w := by kernel_rfl
abbrev MapIs (w : World) (m n : Nat) (D : DataW Unit) : Prop := w.ownsMap Tryz.prog 3 mR m n D
structure MD (D : DataW Unit) (M : Int → Option Pf) (ct : Nat) : Prop where
 has : ∀ k, Maps.has D (.int .i64 k) = (M k).isSome
 at1 : ∀ k f, M k = some f → D.atKey (.int .i64 k) (.lit (.int .i64 (-1))) = pfD f
 sz : Maps.size D = ct
 td : Tidy D
theorem MD.nil : MD (.map []) (fun _ => none) 0 := ⟨fun _ => rfl, fun _ _ h => (by cases h), rfl, tidy_empty⟩
theorem lit_ne {x y : Int} (h : x ≠ y) : Lit.int .i64 x ≠ Lit.int .i64 y := fun e => h (by injection e)
def putM (M : Int → Option Pf) (k : Int) (f : Pf) : Int → Option Pf := fun x => if x = k then some f else M x
theorem MD.put {D : DataW Unit} {M : Int → Option Pf} {ct : Nat} (h : MD D M ct) (k : Int) (f : Pf) : MD (D.put (.int .i64 k) (pfD f)) (putM M k f) (if (M k).isSome then ct else ct + 1) := by
 refine ⟨fun x => ?_, fun x f' hx => ?_, ?_, h.td.put (by trivial) _⟩
 ·unfold putM
  by_cases e : x = k
  ·subst e; rw [if_pos rfl]; exact has_put_same h.td.isMap (by trivial) _
  ·rw [if_neg e, has_put_other (lit_ne e)]; exact h.has x
 ·unfold putM at hx
  by_cases e : x = k
  ·subst e
   rw [if_pos rfl] at hx
   cases hx
   exact atKey_put_same h.td.isMap (by trivial) _ _
  ·rw [if_neg e] at hx
   rw [atKey_put_other (lit_ne e)]
   exact h.at1 x f' hx
 ·rw [size_put h.td, h.has, h.sz]
theorem map_tight {w : World} {m n : Nat} {D : DataW Unit} (h : MapIs w m n D) : MapIs w m (Maps.size D) D := by
 obtain ⟨es, clock, hb, F, hs, hD⟩ := h
 refine ⟨es, clock, hb, F, ?_, hD⟩
 rw [hD]
 simp [Maps.size, length_sorted]
theorem MapIs.cf {w u : World} {m n : Nat} {D : DataW Unit} {F : Nat → Prop} (h : MapIs w m n D) (hc : Cf F w u) (hm : ¬ F m) : MapIs u m n D := by
 have hlt := World.ownsMap.lt h
 obtain ⟨es, clock, hb, R, hs, hD⟩ := h
 exact ⟨es, clock, (hc.block m hlt hm).trans hb, R, hs, hD⟩
structure Bn (w : World) (b m : Nat) (en pg ps rd : Int) (M : Int → Option Pf) (ct : Nat) : Prop where
 box : w.heap[b]? = some (.cells #[.int .i64 en, .int .i64 pg, .int .i64 ps, .map (some m), .int .i64 rd] 59 (0, 0))
 mp : ∃ D, MapIs w m ct D ∧ MD D M ct
 pgs : ∀ k f, M k = some f → Sl w (some ⟨f.g, 0, none⟩) f.l.length f.c f.l ∧ f.g ≠ b ∧ f.g ≠ m
theorem Bn.lt {w : World} {b m : Nat} {en pg ps rd : Int} {M : Int → Option Pf} {ct : Nat} (h : Bn w b m en pg ps rd M ct) : b < w.heap.size := lt_some h.box
theorem Bn.mlt {w : World} {b m : Nat} {en pg ps rd : Int} {M : Int → Option Pf} {ct : Nat} (h : Bn w b m en pg ps rd M ct) : m < w.heap.size := by
 obtain ⟨D, h1, _⟩ := h.mp
 exact World.ownsMap.lt h1
theorem Bn.bm {w : World} {b m : Nat} {en pg ps rd : Int} {M : Int → Option Pf} {ct : Nat} (h : Bn w b m en pg ps rd M ct) : b ≠ m := by
 rintro rfl
 obtain ⟨D, ⟨es, clock, hb, _⟩, _⟩ := h.mp
 rw [h.box] at hb
 cases hb
theorem Bn.cf {w u : World} {b m : Nat} {en pg ps rd : Int} {M : Int → Option Pf} {ct : Nat} {F : Nat → Prop} (h : Bn w b m en pg ps rd M ct) (hc : Cf F w u) (hb : ¬ F b) (hm : ¬ F m) (hp : ∀ k f, M k = some f → ¬ F f.g) : Bn u b m en pg ps rd M ct := by
 refine ⟨(hc.block b h.lt hb).trans h.box, ?_, fun k f hk => ?_⟩
 ·obtain ⟨D, h1, h2⟩ := h.mp
  exact ⟨D, h1.cf hc hm, h2⟩
 ·obtain ⟨h1, h2, h3⟩ := h.pgs k f hk
  exact ⟨h1.cf hc (.inr fun p e => by cases e; exact hp k f hk), h2, h3⟩
theorem Bn.on {w u : World} {b m : Nat} {en pg ps rd : Int} {M : Int → Option Pf} {ct : Nat} (h : Bn w b m en pg ps rd M ct) (hb : Below w.heap.size w u) : Bn u b m en pg ps rd M ct :=
 h.cf (F := fun _ => False) (Cf.of_below hb) (fun h => h) (fun h => h) (fun _ _ _ h => h)
structure Bc (w : World) (b m : Nat) (en pg ps rd : Int) : Prop where
 c0 : w.cell? ⟨b, 0, none⟩ = some (.int .i64 en)
 c1 : w.cell? ⟨b, 1, none⟩ = some (.int .i64 pg)
 c2 : w.cell? ⟨b, 2, none⟩ = some (.int .i64 ps)
 c3 : w.cell? ⟨b, 3, none⟩ = some (.map (some m))
 c4 : w.cell? ⟨b, 4, none⟩ = some (.int .i64 rd)
 f4 : w.frozen? ⟨b, 4, none⟩ = false
theorem Bn.cells {w : World} {b m : Nat} {en pg ps rd : Int} {M : Int → Option Pf} {ct : Nat} (h : Bn w b m en pg ps rd M ct) : Bc w b m en pg ps rd := by
 have hb := h.box
 refine ⟨?_, ?_, ?_, ?_, ?_, ?_⟩
 ·rw [cell_of_row _ _ 0 _ _ _ hb]; rfl
 ·rw [cell_of_row _ _ 1 _ _ _ hb]; rfl
 ·rw [cell_of_row _ _ 2 _ _ _ hb]; rfl
 ·rw [cell_of_row _ _ 3 _ _ _ hb]; rfl
 ·rw [cell_of_row _ _ 4 _ _ _ hb]; rfl
 ·simp [World.frozen?, hb]
theorem Bn.look {w : World} {b m : Nat} {en pg ps rd : Int} {M : Int → Option Pf} {ct : Nat} (h : Bn w b m en pg ps rd M ct) (k : Int) (hk : (Lit.int .i64 k).wf = true) :
  (M k = none ∧ (Instr.lookup 57 (.map (some m)) (.int .i64 k) true).run Tryz.prog w = .ok (.tuple #[.slice none 0 0, .bool false]) w) ∨ ∃ f, M k = some f ∧ (Instr.lookup 57 (.map (some m)) (.int .i64 k) true).run Tryz.prog w = .ok (.tuple #[pfV f, .bool true]) w := by
 obtain ⟨D, h1, h2⟩ := h.mp
 obtain ⟨v, ps, hr, hv⟩ := h1.look_ok kI Tryz.underlying57 (zL w) (zd := .lit (.int .i64 (-1))) (zp := []) rfl (keyOf_int_mk Tryz.underlying3 hk)
 rw [h2.has] at hr
 cases hM : M k with
 | none =>
  left
  rw [hM] at hr
  rw [atKey_of_not_has (by rw [h2.has, hM]; rfl)] at hv
  refine ⟨rfl, ?_⟩
  rw [hr, mR_inv_nil hv]
  rfl
 | some f =>
  right
  rw [hM] at hr
  rw [h2.at1 k f hM] at hv
  refine ⟨f, rfl, ?_⟩
  rw [hr, mR_inv hv]
  rfl
def Bo (b m : Nat) (k : Nat) : Prop := k = b ∨ k = m
theorem Bn.store {w : World} {b m : Nat} {en pg ps rd : Int} {M : Int → Option Pf} {ct : Nat} (h : Bn w b m en pg ps rd M ct) (k : Int) (hk : (Lit.int .i64 k).wf = true) (f : Pf) (hf : Sl w (some ⟨f.g, 0, none⟩) f.l.length f.c f.l) (hb : f.g ≠ b) (hm : f.g ≠ m) (hct : ct < 1000000) :
  ∃ w', (Instr.mapUpdate 57 (.map (some m)) (.int .i64 k) (pfV f)).run Tryz.prog w = .ok () w' ∧ Bn w' b m en pg ps rd (putM M k f) (if (M k).isSome then ct else ct + 1) ∧ Cf (· = m) w w' := by
 obtain ⟨D, h1, h2⟩ := h.mp
 obtain ⟨w', hr, h3, h4⟩ := h1.store kI Tryz.underlying57 (by unfold maxLen; omega) (keyOf_int_mk Tryz.underlying3 hk) (mR_mk f)
 have hc : Cf (· = m) w w' := Cf.turned h4 rfl
 have h5 := h2.put k f
 refine ⟨w', hr, ⟨(hc.block b h.lt h.bm).trans h.box, ⟨_, ?_, h5⟩, fun x f' hx => ?_⟩, hc⟩
 ·have := map_tight h3
  rw [h5.sz] at this
  exact this
 ·unfold putM at hx
  by_cases e : x = k
  ·rw [if_pos e] at hx
   cases hx
   exact ⟨hf.cf hc (.inr fun p e => by cases e; exact hm), hb, hm⟩
  ·rw [if_neg e] at hx
   obtain ⟨a1, a2, a3⟩ := h.pgs x f' hx
   exact ⟨a1.cf hc (.inr fun p e => by cases e; exact a3), a2, a3⟩
theorem Bn.read1 {w : World} {b m : Nat} {en pg ps rd : Int} {M : Int → Option Pf} {ct : Nat} (h : Bn w b m en pg ps rd M ct) (x : Int) : Bn (w.setCell ⟨b, 4, none⟩ (.int .i64 x)) b m en pg ps x M ct := by
 have hc : Cf (· = b) w (w.setCell ⟨b, 4, none⟩ (.int .i64 x)) := Cf.setCell (F := (· = b)) w (p := ⟨b, 4, none⟩) rfl _
 refine ⟨?_, ?_, fun k f hk => ?_⟩
 ·have := set_row (w := w) (a := b) (cs := [.int .i64 en, .int .i64 pg, .int .i64 ps, .map (some m), .int .i64 rd]) (i := 4) (u := .int .i64 x) h.box
  simpa using this
 ·obtain ⟨D, h1, h2⟩ := h.mp
  exact ⟨D, h1.cf hc (fun e => h.bm e.symm), h2⟩
 ·obtain ⟨h1, h2, h3⟩ := h.pgs k f hk
  exact ⟨h1.cf hc (.inr fun p e => by cases e; exact h2), h2, h3⟩
end Go.Proofs.YtjpmfgoodcldcaaGreatDoor
