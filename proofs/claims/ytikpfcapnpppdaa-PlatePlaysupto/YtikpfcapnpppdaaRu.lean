/- The device's Image is the document's. -/
import Derived.Test.YtikpfcapnpppdaaRt
import Derived.Test.YtikpfcapnpppdaaIp
namespace Go.Proofs.Ytikpfcapnpppdaa
open Go.RowKit

set_option maxRecDepth 100000 in
/-- Two images whose pages are the same are the same. -/
theorem pages_ext {page pages : Nat} {l m : List Int} (hp : 0 < page) (hl : l.length = page * pages) (hm : m.length = page * pages) (h : ∀ i, i < pages → pgOf page l i = pgOf page m i) : l = m := by
  apply List.ext_getElem?
  intro j
  by_cases hj : j < page * pages
  · have h1 : j / page < pages := Nat.div_lt_of_lt_mul hj
    have h2 := congrArg (fun x => x[j % page]?) (h (j / page) h1)
    simp only [pgOf_get] at h2
    rw [if_pos (Nat.mod_lt _ hp), if_pos (Nat.mod_lt _ hp), Nat.mul_comm, Nat.div_add_mod] at h2
    exact h2
  · rw [List.getElem?_eq_none (by omega), List.getElem?_eq_none (by omega)]
set_option maxRecDepth 100000 in
/-- A page of what a Sync lays is the page as it is read. -/
theorem lay_page {page pages : Nat} {loose : List (Nat × List Int)} {safe : List Int} (hs : safe.length = page * pages) (h : ∀ x ∈ loose, x.1 < pages ∧ x.2.length = page) : ∀ k, k ≤ loose.length → ∀ i, i < pages → pgOf page (lay page loose (fun _ => page) safe k) i = rdW (pgOf page safe i) loose i k
  | 0, _, i, _ => rfl
  | k + 1, hk, i, hi => by
    have h0 := lay_page hs h k (by omega) i hi
    have h1 := lay_len (fun _ => page) hs h k (by omega)
    obtain ⟨h2, h3⟩ := loose_at h (k := k) (by omega)
    unfold lay rdW
    generalize (loose.getD k (0, [])).1 = p at *
    generalize (loose.getD k (0, [])).2 = b at *
    rw [List.take_of_length_le (by omega)]
    by_cases e : p = i
    · subst e
      rw [pgOf_same h1 h2 (by omega), if_pos rfl, List.drop_of_length_le (by unfold pgOf; rw [List.length_take]; omega), List.append_nil]
    · rw [pgOf_other h1 h2 (by omega) e, if_neg e, h0]
set_option maxRecDepth 100000 in
theorem Tw.imD {d : D} {r : R} (h : Tw d r) (hp : 0 < d.page) (hr : ∀ k, k < d.pages → (Go.Proofs.Ytikpfcapnpppdaa.rd d k).length = d.page) : imD d d.pages = imR r.page (flatR r.L r.L.length) r.wild r.wild.length := by
  rw [h.image]
  refine pages_ext hp (imD_len d h.ns hr _ (Nat.le_refl _)) (lay_len _ h.ns h.all _ (Nat.le_refl _)) fun i hi => ?_
  rw [imD_page d h.ns hr hp _ (Nat.le_refl _) i hi, if_pos hi]
  show _ = pgOf d.page (lay d.page d.loose (fun _ => d.page) d.safe d.loose.length) i
  rw [lay_page h.ns h.all _ (Nat.le_refl _) i hi, h.rd hi]
  unfold rdR
  rw [h.wild, h.rows i hi]
end Go.Proofs.Ytikpfcapnpppdaa
