/- What a Back puts back, plain; clear of a map. -/
import Derived.Test.YtedgpcckbdnijaaDoorUo
import Derived.Sort.MapsRangeIn
namespace Go.Proofs.YtedgpcckbdnijaaDoor
open Go.RowKit Go.Maps Go.Shelf

/-- What a mark knows is put back. -/
def appB (K B : Int → Option Int) : Int → Option Int := fun x => match B x with | none => K x | some s => if s = -1 then none else some s
/-- .. of the pages that have come. -/
def appL (K B : Int → Option Int) (left : Lit → Bool) : Int → Option Int := fun x => if left (.int .i64 x) = true then K x else appB K B x
set_option maxRecDepth 100000 in
theorem appL_start {D : DataW Unit} {K B : Int → Option Int} (h : MD D B) : appL K B (Maps.has D) = K := by
  funext x
  unfold appL appB
  by_cases e : Maps.has D (.int .i64 x) = true
  · rw [if_pos e]
  · rw [if_neg e]
    rw [h.has] at e
    cases hB : B x with
    | none => rfl
    | some s => rw [hB] at e; exact absurd rfl e
set_option maxRecDepth 100000 in
theorem appL_end {K B : Int → Option Int} {left : Lit → Bool} (h : ∀ kl, left kl = false) : appL K B left = appB K B := by
  funext x
  unfold appL
  rw [if_neg (by rw [h]; decide)]
set_option maxRecDepth 100000 in
theorem appL_step {K B : Int → Option Int} {left : Lit → Bool} {x c : Int} (hc : B x = some c) : setK (appL K B left) x c = appL K B (fun z => left z && !z.sameKey (.int .i64 x)) := by
  funext y
  by_cases e : y = x
  · subst e
    have h1 : ¬ (left (.int .i64 y) && !(Lit.int .i64 y).sameKey (.int .i64 y)) = true := by simp [Lit.sameKey]
    have h2 : appL K B (fun z => left z && !z.sameKey (.int .i64 y)) y = appB K B y := by
      unfold appL
      exact if_neg h1
    rw [h2]
    unfold setK delK putK appB
    rw [hc]
    by_cases e2 : c = -1
    · simp [e2]
    · simp [e2]
  · have h1 : (left (.int .i64 y) && !(Lit.int .i64 y).sameKey (.int .i64 x)) = left (.int .i64 y) := by simp [Lit.sameKey, e]
    have h2 : setK (appL K B left) x c y = appL K B left y := by
      unfold setK delK putK
      by_cases e2 : c = -1
      · rw [if_pos e2]; simp [e]
      · rw [if_neg e2]; simp [e]
    rw [h2]
    unfold appL
    show _ = if (left (.int .i64 y) && !(Lit.int .i64 y).sameKey (.int .i64 x)) = true then K y else appB K B y
    rw [h1]
set_option maxRecDepth 100000 in
theorem Cf.ofGrown {w u : World} {row : Option Nat} (h : w.grownBy u row) : Cf (fun k => row = some k) w u := ⟨h.os, h.tape, h.output, h.size, fun k hk hf => h.block k hk (fun e => hf e.symm)⟩
set_option maxRecDepth 100000 in
theorem ranges_cf {w u : World} {k : TypeId} {R : Value → Option (DataW Unit × List MemPlace)} {b r n cnt : Nat} {D : DataW Unit} {left : Lit → Bool} {F : Nat → Prop} (h : w.ranges Tryd.prog k R b r n D left cnt) (hc : Cf F w u) (hb : ¬ F b) (hr : ¬ F r) : u.ranges Tryd.prog k R b r n D left cnt := by
  have hlb := World.ownsMap.lt h.owns
  have hlr := h.lt
  obtain ⟨es, clock, since, seen, c0, h1, h2, h3, h4, h5, h6⟩ := h
  exact ⟨es, clock, since, seen, c0, (hc.block b hlb hb).trans h1, h2, h3, h4, (hc.block r hlr hr).trans h5, h6⟩
set_option maxRecDepth 100000 in
theorem MK.clear {w : World} {m : Nat} {K : Int → Option Int} (h : MK w m K) (ty : TypeId) : ∃ w', (Builtin.clear_ #[56] ty #[.map (some m)]).run Tryd.prog w = .ok (.tuple #[]) w' ∧ MK w' m (fun _ => none) ∧ Cf (· = m) w w' := by
  obtain ⟨⟨n, D, ⟨es, clock, hb, F, hs, hD⟩, _⟩, _⟩ := h
  have hlt := lt_some hb
  refine ⟨{ w with heap := w.heap.setIfInBounds m (.map #[] clock) }, ?_, ⟨⟨0, .map [], ⟨#[], clock, ?_, ⟨Nat.zero_le _, ?_, fun x hx => (by simp at hx)⟩, Nat.le_refl _, rfl⟩, MD.nil⟩, fun _ _ h => (by cases h)⟩, ⟨rfl, rfl, rfl, by simp, fun k hk hf => ?_⟩⟩
  · have h1 : (getObj m).run Tryd.prog w = .ok (.map es clock) w := by simp [getObj, Sem.run, hb]
    have h2 : (setObj m (.map #[] clock)).run Tryd.prog w = .ok () { w with heap := w.heap.setIfInBounds m (.map #[] clock) } := by simp [setObj, Sem.run, hb]
    simp [Builtin.clear_, run_underlying Tryd.underlying56, h1, h2]
  · simp [hlt]
  · exact ⟨by simp, by simp⟩
  · have : m ≠ k := fun e => hf e.symm
    simp [Array.getElem?_setIfInBounds_ne this]
set_option maxRecDepth 100000 in
/-- The last mark's map holds something else. -/
theorem Fl.setB {w u : World} {b m : Nat} {mv : Value} {last : Int} {K : Int → Option Int} {N : List Mq} {q : Mq} {B : Int → Option Int} (h : Fl w b m mv last K (N ++ [q])) (hc : Cf (· = q.b) w u) (hm : MK u q.b B) (hv : ∀ k f, B k = some f → -1 ≤ f ∧ f ≤ 1099511627776) : Fl u b m mv last K (N ++ [{ q with B := B }]) := by
  obtain ⟨n1, n2, n3⟩ := mk_ne h
  have hap := h.apart
  rw [List.pairwise_append] at hap
  have hq := h.maps q (by simp)
  refine ⟨h.fs.cf hc (fun e => (n3 q (by simp)).2 e.symm) (fun e => hq.2.1 e.symm), ?_, fun q' hq' => ?_, ?_⟩
  · have := h.row.cf hc (fun x hx e => (n3 q (by simp)).1 (by rw [hx, e]))
    unfold OwnM at *
    rw [mkC_same, List.length_append] at *
    exact this
  · rcases List.mem_append.1 hq' with hq' | hq'
    · have := h.maps q' (List.mem_append_left _ hq')
      exact ⟨this.1.cf hc (fun e => hap.2.2 q' hq' q (by simp) e), this.2⟩
    · simp only [List.mem_singleton] at hq'
      subst hq'
      exact ⟨hm, hq.2.1, hv⟩
  · rw [List.pairwise_append]
    exact ⟨hap.1, by simp, fun a ha c hc' => by simp only [List.mem_singleton] at hc'; subst hc'; exact hap.2.2 a ha q (by simp)⟩
set_option maxRecDepth 100000 in
theorem Fl.same {w : World} {b m : Nat} {mv : Value} {last : Int} {K : Int → Option Int} {M : List Mq} (h : Fl w b m mv last K M) : Fl (w.setCell ⟨b, 1025, none⟩ mv) b m mv last K M := by
  obtain ⟨n1, n2, n3⟩ := mk_ne h
  have hc : Cf (· = b) w (w.setCell ⟨b, 1025, none⟩ mv) := Cf.setCell (F := (· = b)) w (p := ⟨b, 1025, none⟩) rfl _
  exact ⟨h.fs.setm mv, h.row.cf hc (fun k hk e => n1 (by rw [hk, e])), fun q hq => ⟨(h.maps q hq).1.cf hc (fun e => (n3 q hq).2 e), (h.maps q hq).2⟩, h.apart⟩
set_option maxRecDepth 100000 in
theorem clear_none (ao : Option Addr) (cap : Nat) (ty : TypeId) (X : World) : (Builtin.clear_ #[61] ty #[.slice ao 0 cap]).run Tryd.prog X = .ok (.tuple #[]) X := by
  cases ao <;> simp [Builtin.clear_, run_underlying Tryd.underlying61]
end Go.Proofs.YtedgpcckbdnijaaDoor
