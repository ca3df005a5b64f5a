/- What a Sync and a fall lay into the safe bytes; Sync. -/
import Derived.Test.YtbnjojplfbibkaaGreatDoorPl7
import Derived.Deep.RegionLaw
namespace Go.Proofs.YtbnjojplfbibkaaGreatDoor
open Go.RowKit

set_option maxRecDepth 100000 in
theorem step_copy_row {P : Program} {ops : Array Oper} {o : Oper} {a : Act} {w : World} {K : Act → World → Prop} {Q : Exit → Act → World → Prop} {E : Prop} (hgd : o.guard = none) (d s : Operand) (dT sT : TypeId)
    (ho : o.op = .call { callee := .builtin .copy, args := #[d, s], argTypes := #[dT, sT] }) (elem : TypeId) (hu : P.underlying dT = some (.slice elem)) (hsz : (P.info? elem).map (·.size) = some 1)
    (g off dLen dCap : Nat) (ad : Addr) (sLen sCap : Nat) (hd : a.eval d = .slice (some ⟨g, off, none⟩) dLen dCap) (hs : a.eval s = .slice (some ad) sLen sCap)
    (cur : List Value) (t : TypeId) (hg : w.heap[g]? = some (.cells cur.toArray t (0, 0))) (cs : List Value) (hn : cs.length = Nat.min sLen dLen)
    (hsrc : ∀ j v, cs[j]? = some v → w.cell? (ad.add j) = some v) (hfit : off + cs.length ≤ cur.length) (h1 : ∀ v ∈ cs, v.oneCell' = true)
    (h : ∀ u, Hid (u = w.setRow g (splice cur off cs).toArray) → K (a.put o.dst (goInt cs.length)) u) : if Region.wanted o (yielded ops a.tmps) = true then Oper.wp P o a w K Q else E := by
  have hw : Region.wanted o (yielded ops a.tmps) = true := by simp [Region.wanted, hgd]
  rw [if_pos hw]
  by_cases h0 : cs.length = 0
  · have e : cs = [] := List.eq_nil_of_length_eq_zero h0
    have hrun := run_copy_none (P := P) w dT sT o.type elem (some ⟨g, off, none⟩) (some ad) dLen dCap sLen sCap hu hsz (by omega)
    have := h w (hidden (by
      rw [e, show splice cur off [] = cur from by simp [splice]]
      exact (setRow_self w g _ t _ hg).symm))
    rw [h0] at this
    unfold Oper.wp
    simp [execOp, ho, resolve, invoke, builtin, hd, hs, hrun, Result.andThen]
    exact this
  · have hrun := run_copy_row (P := P) w dT sT o.type elem g off dLen dCap ad sLen sCap cur.toArray t cs hu hsz hg hn hsrc (by simpa using hfit) h1
    unfold Oper.wp
    simp [execOp, ho, resolve, invoke, builtin, hd, hs, hrun, Result.andThen]
    exact h _ (hidden (by simp [splice]))

/-- The safe bytes behind the first k loose writes, st telling how much of each is laid. -/
def lay (page : Nat) (loose : List (Nat × List Int)) (st : Nat → Nat) (safe : List Int) : Nat → List Int
  | 0 => safe
  | k + 1 => splice (lay page loose st safe k) ((loose.getD k (0, [])).1 * page) ((loose.getD k (0, [])).2.take (st k))

set_option maxRecDepth 100000 in
theorem Wf.splice {l cs : List Int} (h : Wf l) (hc : Wf cs) (off : Nat) : Wf (splice l off cs) := (h.take _).append (hc.append (h.drop _))
set_option maxRecDepth 100000 in
theorem By_splice (l cs : List Int) (off : Nat) : splice (By l) off (By cs) = By (splice l off cs) := by simp [splice, By, List.map_take, List.map_drop]

set_option maxRecDepth 100000 in
theorem lay_ok {w : World} {F : Nat → Prop} {a page pages : Nat} {safe : List Int} {loose : List (Nat × List Int)} {last keep : List Int} {bs bl : Nat} {vL vK : Value} (h : Rest w F a page pages safe loose last keep bs bl vL vK) (st : Nat → Nat) :
    ∀ k, k ≤ loose.length → (lay page loose st safe k).length = page * pages ∧ Wf (lay page loose st safe k)
  | 0, _ => ⟨h.ns, h.ws⟩
  | k + 1, hk => by
    obtain ⟨h1, h2⟩ := lay_ok h st k (by omega)
    obtain ⟨g, c', q, e, _, _, _, _, _, _, _, _, _, _, _, _, _, _, h5, h6, h7⟩ := h.lo.item (k := k) (by omega)
    refine ⟨?_, h2.splice (h7.take _) _⟩
    show (Go.splice _ _ _).length = _
    have hx : (loose.getD k (0, [])).1 * page + page ≤ page * pages := by
      rw [Nat.mul_comm page pages, ← Nat.succ_mul]; exact Nat.mul_le_mul_right _ h5
    rw [length_splice _ _ _ (by rw [h1, List.length_take]; omega), h1]

set_option maxRecDepth 100000 in
theorem Rest.resafe {w w' : World} {F : Nat → Prop} {a page pages : Nat} {safe safe' : List Int} {loose : List (Nat × List Int)} {last keep : List Int} {bs bl : Nat} {vL vK : Value} (h : Rest w F a page pages safe loose last keep bs bl vL vK) (hc : Ch (fun j => j = bs) w w')
    (hs : w'.heap[bs]? = some (.cells (By safe').toArray 5 (0, 0))) (hl : safe'.length = page * pages) (hw : Wf safe') : Rest w' F a page pages safe' loose last keep bs bl vL vK :=
  ⟨h.fa, h.fs, h.fl, h.n1, h.n2, h.n3, hs, (hc.block bl (lt_of_some h.hl) h.n3).trans h.hl, hl, h.nl, hw, h.p1, h.p2, h.q1, h.q2, h.q3, h.lo.keep (fun _ f _ => f) fun k _ _ f3 _ f5 => hc.block k f5 f3,
    h.ke.keep (fun _ f _ => f) hc.size (fun _ _ h => h) fun k _ _ f3 _ _ f5 => hc.block k f5 f3, h.lst, h.few⟩

/-- What a Sync leaves. -/
def D.synced (d : D) : D := { d with safe := lay d.page d.loose (fun _ => d.page) d.safe d.loose.length, loose := [], last := List.replicate d.pages 0, cs := d.cs + 1 }

end Go.Proofs.YtbnjojplfbibkaaGreatDoor
