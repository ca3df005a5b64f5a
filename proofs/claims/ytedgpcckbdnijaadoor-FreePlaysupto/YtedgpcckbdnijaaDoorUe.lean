/- A map of ints to ints in memory. -/
import Derived.Test.YtedgpcckbdnijaaDoorUb
namespace Go.Proofs.YtedgpcckbdnijaaDoor
open Go.RowKit Go.Maps

set_option maxRecDepth 100000 in
theorem zI (w : World) : (zeroValue 3).run Tryd.prog w = .ok (.int .i64 0) w := by kernel_rfl
abbrev MapIs (w : World) (m n : Nat) (D : DataW Unit) : Prop := w.ownsMap Tryd.prog 3 (plainElem Tryd.prog 3) m n D
/-- The map's datum, and what is kept. -/
structure MD (D : DataW Unit) (K : Int → Option Int) : Prop where
  has : ∀ k, Maps.has D (.int .i64 k) = (K k).isSome
  at1 : ∀ k f, K k = some f → D.atKey (.int .i64 k) (.lit (.int .i64 0)) = .lit (.int .i64 f)
  wf : ∀ k f, K k = some f → (Lit.int .i64 f).wf = true
  td : Tidy D
set_option maxRecDepth 100000 in
theorem MD.nil : MD (.map []) (fun _ => none) := ⟨fun _ => rfl, fun _ _ h => (by cases h), fun _ _ h => (by cases h), tidy_empty⟩
/-- One more; one less. -/
def putK (K : Int → Option Int) (k f : Int) : Int → Option Int := fun x => if x = k then some f else K x
def delK (K : Int → Option Int) (k : Int) : Int → Option Int := fun x => if x = k then none else K x
set_option maxRecDepth 100000 in
theorem MD.put {D : DataW Unit} {K : Int → Option Int} (h : MD D K) (k f : Int) (hf : (Lit.int .i64 f).wf = true) : MD (D.put (.int .i64 k) (.lit (.int .i64 f))) (putK K k f) := by
  refine ⟨fun x => ?_, fun x f' hx => ?_, fun x f' hx => ?_, h.td.put (by trivial) _⟩
  · unfold putK
    by_cases e : x = k
    · subst e; rw [if_pos rfl]; exact has_put_same h.td.isMap (by trivial) _
    · rw [if_neg e, has_put_other (lit_ne e)]; exact h.has x
  · unfold putK at hx
    by_cases e : x = k
    · subst e
      rw [if_pos rfl] at hx
      cases hx
      exact atKey_put_same h.td.isMap (by trivial) _ _
    · rw [if_neg e] at hx
      rw [atKey_put_other (lit_ne e)]
      exact h.at1 x f' hx
  · unfold putK at hx
    by_cases e : x = k
    · rw [if_pos e] at hx; cases hx; exact hf
    · rw [if_neg e] at hx; exact h.wf x f' hx
set_option maxRecDepth 100000 in
theorem MD.del {D : DataW Unit} {K : Int → Option Int} (h : MD D K) (k : Int) : MD (D.del (.int .i64 k)) (delK K k) := by
  refine ⟨fun x => ?_, fun x f' hx => ?_, fun x f' hx => ?_, h.td.del _⟩
  · unfold delK
    by_cases e : x = k
    · subst e; rw [if_pos rfl]; exact has_del_same
    · rw [if_neg e, has_del_other (lit_ne e)]; exact h.has x
  · unfold delK at hx
    by_cases e : x = k
    · rw [if_pos e] at hx; cases hx
    · rw [if_neg e] at hx
      rw [atKey_del_other (lit_ne e)]
      exact h.at1 x f' hx
  · unfold delK at hx
    by_cases e : x = k
    · rw [if_pos e] at hx; cases hx
    · rw [if_neg e] at hx; exact h.wf x f' hx
set_option maxRecDepth 100000 in
theorem map_tight {w : World} {m n : Nat} {D : DataW Unit} (h : MapIs w m n D) : MapIs w m (Maps.size D) D := by
  obtain ⟨es, clock, hb, F, hs, hD⟩ := h
  refine ⟨es, clock, hb, F, ?_, hD⟩
  rw [hD]
  simp [Maps.size, length_sorted]
set_option maxRecDepth 100000 in
theorem MapIs.cf {w u : World} {m n : Nat} {D : DataW Unit} {F : Nat → Prop} (h : MapIs w m n D) (hc : Cf F w u) (hm : ¬ F m) : MapIs u m n D := by
  have hlt := World.ownsMap.lt h
  obtain ⟨es, clock, hb, R, hs, hD⟩ := h
  exact ⟨es, clock, (hc.block m hlt hm).trans hb, R, hs, hD⟩
/-- All keys are numbers of pages. -/
def Pgs (K : Int → Option Int) : Prop := ∀ k f, K k = some f → 2 ≤ k ∧ k < 65536
set_option maxRecDepth 100000 in
theorem nodup_len : ∀ (n : Nat) (l : List Nat), l.Nodup → (∀ x ∈ l, x < n) → l.length ≤ n
  | 0, l, _, h => by
    cases l with
    | nil => exact Nat.le_refl _
    | cons a l => exact absurd (h a (by simp)) (Nat.not_lt_zero _)
  | n + 1, l, hn, h => by
    by_cases e : n ∈ l
    · have h1 := nodup_len n (l.erase n) (hn.erase n) (fun x hx => by
        have h2 := (hn.mem_erase_iff.1 hx)
        have := h x h2.2
        have := h2.1
        omega)
      rw [List.length_erase_of_mem e] at h1
      omega
    · have h1 := nodup_len n l hn (fun x hx => by
        have := h x hx
        have : x ≠ n := fun e2 => e (e2 ▸ hx)
        omega)
      omega
/-- THE MAP IN MEMORY. -/
def MK (w : World) (m : Nat) (K : Int → Option Int) : Prop := (∃ n D, MapIs w m n D ∧ MD D K) ∧ Pgs K
set_option maxRecDepth 100000 in
theorem MK.lt {w : World} {m : Nat} {K : Int → Option Int} (h : MK w m K) : m < w.heap.size := by
  obtain ⟨⟨n, D, h1, _⟩, _⟩ := h
  exact World.ownsMap.lt h1
set_option maxRecDepth 100000 in
theorem MK.cf {w u : World} {m : Nat} {K : Int → Option Int} {F : Nat → Prop} (h : MK w m K) (hc : Cf F w u) (hm : ¬ F m) : MK u m K := by
  obtain ⟨⟨n, D, h1, h2⟩, h3⟩ := h
  exact ⟨⟨n, D, h1.cf hc hm, h2⟩, h3⟩
set_option maxRecDepth 100000 in
theorem MK.on {w u : World} {m : Nat} {K : Int → Option Int} (h : MK w m K) (hb : Below w.heap.size w u) : MK u m K := h.cf (F := fun _ => False) (Cf.of_below hb) (fun h => h)
set_option maxRecDepth 100000 in
/-- It is no block of cells. -/
theorem MK.ne {w : World} {m : Nat} {K : Int → Option Int} (h : MK w m K) {b : Nat} {c : Array Value} {t : TypeId} {fz : Nat × Nat} (hb : w.heap[b]? = some (.cells c t fz)) : b ≠ m := by
  rintro rfl
  obtain ⟨⟨n, D, ⟨es, clock, hm, _⟩, _⟩, _⟩ := h
  rw [hb] at hm
  cases hm
set_option maxRecDepth 100000 in
theorem MK.size {w : World} {m : Nat} {K : Int → Option Int} (h : MK w m K) : ∃ D, MapIs w m (Maps.size D) D ∧ MD D K ∧ Maps.size D ≤ 65536 := by
  obtain ⟨⟨n, D, h1, h2⟩, h3⟩ := h
  refine ⟨D, map_tight h1, h2, ?_⟩
  obtain ⟨es, hD, hpw, _⟩ := World.ownsMap.entries h1 kI
  obtain ⟨es', hD', hko⟩ := h1.keysOf
  obtain rfl : es = es' := by rw [hD] at hD'; simpa using hD'
  subst hD
  have hk : ∀ p ∈ es, ∃ x, p.1 = .int .i64 x := fun p hp => by
    obtain ⟨v, hv⟩ := hko p hp
    obtain ⟨x, _, hx, _⟩ := Maps.keyOf_i64 Tryd.underlying3 hv
    exact ⟨x, hx⟩
  have hnd : (intKeys (.map es)).Nodup := by
    show (es.map fun p => intOf p.1).Nodup
    refine List.pairwise_map.2 (hpw.imp_of_mem fun {p q} hp' hq' hne e => hne ?_)
    obtain ⟨a, ha⟩ := hk p hp'
    obtain ⟨b, hb⟩ := hk q hq'
    rw [ha, hb] at e ⊢
    exact congrArg _ e
  have hin : ∀ x ∈ intKeys (.map es), 2 ≤ x ∧ x < 65536 := by
    intro x hx
    obtain ⟨p, hp, rfl⟩ := List.mem_map.1 hx
    obtain ⟨a, ha⟩ := hk p hp
    have h5 : Maps.has (.map es) (.int .i64 a) = true := by
      rw [has_eq, List.any_eq_true]
      exact ⟨p, hp, by rw [ha]; simp [Lit.sameKey]⟩
    rw [h2.has] at h5
    obtain ⟨f, hf⟩ := Option.isSome_iff_exists.1 h5
    rw [ha]
    exact h3 a f hf
  have h4 := nodup_len 65536 ((intKeys (.map es)).map Int.toNat) (List.pairwise_map.2 (hnd.imp_of_mem fun {p q} hp' hq' hne e => hne (by
    have := hin p hp'
    have := hin q hq'
    omega))) (fun x hx => by
      obtain ⟨y, hy, rfl⟩ := List.mem_map.1 hx
      have := hin y hy
      omega)
  rw [List.length_map] at h4
  have h6 : Maps.size (.map es : DataW Unit) = (intKeys (.map es : DataW Unit)).length := by
    show es.length = (es.map fun p => intOf p.1).length
    rw [List.length_map]
  omega
set_option maxRecDepth 100000 in
theorem MK.look {w : World} {m : Nat} {K : Int → Option Int} (h : MK w m K) (k : Int) (hk : (Lit.int .i64 k).wf = true) :
    (Instr.lookup 56 (.map (some m)) (.int .i64 k) true).run Tryd.prog w = .ok (.tuple #[.int .i64 ((K k).getD 0), .bool (K k).isSome]) w := by
  obtain ⟨⟨n, D, h1, h2⟩, h3⟩ := h
  obtain ⟨v, ps, hr, hv⟩ := h1.look_ok kI Tryd.underlying56 (zI w) (zd := .lit (.int .i64 0)) (zp := []) (plainElem_int Tryd.underlying3 (by decide)) (keyOf_int_mk Tryd.underlying3 hk)
  rw [h2.has] at hr
  obtain ⟨c, rfl, e, _⟩ := plainElem_int_inv Tryd.underlying3 hv
  rw [hr]
  injection e with e
  cases hM : K k with
  | none =>
    rw [atKey_of_not_has (by rw [h2.has, hM]; rfl)] at e
    injection e with e
    injection e with e1 e2
    rw [← e2]
    rfl
  | some f =>
    rw [h2.at1 k f hM] at e
    injection e with e
    injection e with e1 e2
    rw [← e2]
    rfl
set_option maxRecDepth 100000 in
theorem MK.store {w : World} {m : Nat} {K : Int → Option Int} (h : MK w m K) (k f : Int) (hk : 2 ≤ k ∧ k < 65536) (hf : (Lit.int .i64 f).wf = true) :
    ∃ w', (Instr.mapUpdate 56 (.map (some m)) (.int .i64 k) (.int .i64 f)).run Tryd.prog w = .ok () w' ∧ MK w' m (putK K k f) ∧ Cf (· = m) w w' := by
  obtain ⟨D, h1, h2, h4⟩ := h.size
  obtain ⟨w', hr, h5, h6⟩ := h1.store kI Tryd.underlying56 (by unfold maxLen; omega) (keyOf_int_mk Tryd.underlying3 (wf64 k (by omega) (by omega))) (plainElem_int Tryd.underlying3 hf)
  refine ⟨w', hr, ⟨⟨_, _, h5, h2.put k f hf⟩, fun x y hx => ?_⟩, Cf.turned h6 rfl⟩
  unfold putK at hx
  by_cases e : x = k
  · rw [e]; exact hk
  · rw [if_neg e] at hx; exact h.2 x y hx
set_option maxRecDepth 100000 in
theorem MK.drop {w : World} {m : Nat} {K : Int → Option Int} (h : MK w m K) (k : Int) (hk : (Lit.int .i64 k).wf = true) (ty : TypeId) :
    ∃ w', (Builtin.delete_ #[56, 3] ty #[.map (some m), .int .i64 k]).run Tryd.prog w = .ok (.tuple #[]) w' ∧ MK w' m (delK K k) ∧ Cf (· = m) w w' := by
  obtain ⟨⟨n, D, h1, h2⟩, h3⟩ := h
  obtain ⟨w', hr, h5, h6⟩ := h1.drop kI Tryd.underlying56 (keyOf_int_mk Tryd.underlying3 hk) ty
  refine ⟨w', hr, ⟨⟨_, _, h5, h2.del k⟩, fun x y hx => ?_⟩, Cf.turned h6 rfl⟩
  unfold delK at hx
  by_cases e : x = k
  · rw [if_pos e] at hx; cases hx
  · rw [if_neg e] at hx; exact h3 x y hx
set_option maxRecDepth 100000 in
theorem MK.made (w : World) : MK (w.alloc (.map #[] 0)) w.heap.size (fun _ => none) := ⟨⟨_, _, World.ownsMap_made w _ _ _, MD.nil⟩, fun _ _ h => (by cases h)⟩
end Go.Proofs.YtedgpcckbdnijaaDoor
