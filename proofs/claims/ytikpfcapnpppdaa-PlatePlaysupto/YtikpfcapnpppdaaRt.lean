/- The device and the document's: what they have in common, and what keeps it. -/
import Derived.Test.YtikpfcapnpppdaaRr
import Derived.Test.YtikpfcapnpppdaaRs
import Derived.Test.YtikpfcapnpppdaaRq
namespace Go.Proofs.Ytikpfcapnpppdaa
open Go.RowKit

/-- The last of the first k loose writes to page n, counted from one. -/
def lastW (loose : List (Nat × List Int)) (n : Nat) : Nat → Nat
  | 0 => 0
  | k + 1 => if (loose.getD k (0, [])).1 = n then k + 1 else lastW loose n k
set_option maxRecDepth 100000 in
theorem lastW_le (loose : List (Nat × List Int)) (n : Nat) : ∀ k, lastW loose n k ≤ k
  | 0 => Nat.le_refl _
  | k + 1 => by
    unfold lastW
    split
    · exact Nat.le_refl _
    · have := lastW_le loose n k; omega
set_option maxRecDepth 100000 in
theorem lastW_app (loose x : List (Nat × List Int)) (n : Nat) : ∀ k, k ≤ loose.length → lastW (loose ++ x) n k = lastW loose n k
  | 0, _ => rfl
  | k + 1, h => by
    have e : (loose ++ x).getD k (0, []) = loose.getD k (0, []) := by simp only [List.getD]; rw [List.getElem?_append_left (by omega)]
    simp only [lastW, e, lastW_app loose x n k (by omega)]
set_option maxRecDepth 100000 in
theorem rdW_last (base : List Int) (loose : List (Nat × List Int)) (n : Nat) : ∀ k, rdW base loose n k = if 0 < lastW loose n k then (loose.getD (lastW loose n k - 1) (0, [])).2 else base
  | 0 => by simp [rdW, lastW]
  | k + 1 => by
    unfold rdW lastW
    split
    · simp
    · exact rdW_last base loose n k

/-- THE DEVICE d AND THE DOCUMENT's r HOLD THE SAME. -/
structure Tw (d : D) (r : R) : Prop where
  page : r.page = d.page
  pages : r.L.length = d.pages
  rows : ∀ i, i < d.pages → r.L.getD i [] = pgOf d.page d.safe i
  ns : d.safe.length = d.page * d.pages
  wild : r.wild = d.loose
  all : ∀ x ∈ d.loose, x.1 < d.pages ∧ x.2.length = d.page
  nl : d.last.length = d.pages
  last : ∀ n, n < d.pages → d.last.getD n 0 = (lastW d.loose n d.loose.length : Int)
  down : r.down = d.down
  armed : r.armed = d.armed
  plan : d.armed = true → r.acts = d.left ∧ r.keep = d.keep ∧ r.torn = d.torn ∧ r.tat = d.tat
  cr : r.cr = d.cr
  cw : r.cw = d.cw
  cs : r.cs = d.cs

set_option maxRecDepth 100000 in
theorem Tw.rd {d : D} {r : R} (h : Tw d r) {n : Nat} (hn : n < d.pages) : rd d n = rdR r n := by
  unfold Go.Proofs.Ytikpfcapnpppdaa.rd rdR
  rw [rdW_last, h.wild, h.rows n hn, h.last n hn]
  by_cases h0 : 0 < lastW d.loose n d.loose.length
  · rw [if_pos h0, if_pos (by omega), Int.toNat_natCast]
  · rw [if_neg h0, if_neg (by omega)]; rfl

set_option maxRecDepth 100000 in
theorem flatR_take (page : Nat) (L : List (List Int)) (safe : List Int) (pages : Nat) (hs : safe.length = page * pages) (h : ∀ i, i < pages → L.getD i [] = pgOf page safe i) : ∀ k, k ≤ pages → flatR L k = safe.take (k * page)
  | 0, _ => by simp [flatR]
  | k + 1, hk => by
    have h1 := flatR_take page L safe pages hs h k (by omega)
    unfold flatR
    rw [h1, h k (by omega), Nat.succ_mul, List.take_add]
    rfl
set_option maxRecDepth 100000 in
theorem Tw.flat {d : D} {r : R} (h : Tw d r) : flatR r.L r.L.length = d.safe := by
  rw [h.pages, flatR_take d.page r.L d.safe d.pages h.ns h.rows d.pages (Nat.le_refl _), List.take_of_length_le]
  rw [h.ns, Nat.mul_comm]
  exact Nat.le_refl _

set_option maxRecDepth 100000 in
theorem loose_at {loose : List (Nat × List Int)} {pages page k : Nat} (h : ∀ x ∈ loose, x.1 < pages ∧ x.2.length = page) (hk : k < loose.length) : (loose.getD k (0, [])).1 < pages ∧ (loose.getD k (0, [])).2.length = page := by
  have e : loose.getD k (0, []) = loose[k] := by simp [List.getD, List.getElem?_eq_getElem hk]
  rw [e]
  exact h _ (List.getElem_mem hk)
set_option maxRecDepth 100000 in
theorem lay_len {page pages : Nat} {loose : List (Nat × List Int)} (st : Nat → Nat) {safe : List Int} (hs : safe.length = page * pages) (h : ∀ x ∈ loose, x.1 < pages ∧ x.2.length = page) : ∀ k, k ≤ loose.length → (lay page loose st safe k).length = page * pages
  | 0, _ => hs
  | k + 1, hk => by
    have h1 := lay_len st hs h k (by omega)
    obtain ⟨h2, h3⟩ := loose_at h (k := k) (by omega)
    have hx := mul_far (p := page) h2
    unfold lay
    rw [length_splice _ _ _ (by rw [h1, List.length_take, h3, Nat.mul_comm page pages]; omega), h1]
set_option maxRecDepth 100000 in
/-- What is laid on the pages one behind the other is what is laid on each. -/
theorem lay_rows {page pages : Nat} {loose : List (Nat × List Int)} {st st' : Nat → Nat} {safe : List Int} {L : List (List Int)} (hs : safe.length = page * pages) (h : ∀ x ∈ loose, x.1 < pages ∧ x.2.length = page) (hL : L.length = pages) (hr : ∀ i, i < pages → L.getD i [] = pgOf page safe i) (hst : ∀ k, k < loose.length → st k = st' k ∧ st k ≤ page) : ∀ k, k ≤ loose.length → ∀ i, i < pages → (layR loose st' L k).getD i [] = pgOf page (lay page loose st safe k) i
  | 0, _, i, hi => hr i hi
  | k + 1, hk, i, hi => by
    have h0 := lay_rows hs h hL hr hst k (by omega)
    have h1 := lay_len st hs h k (by omega)
    obtain ⟨h2, h3⟩ := loose_at h (k := k) (by omega)
    obtain ⟨h4, h5⟩ := hst k (by omega)
    have hlen := layR_len loose st' L k
    unfold lay layR
    rw [← h4]
    generalize (loose.getD k (0, [])).1 = p at *
    generalize (loose.getD k (0, [])).2 = b at *
    have hb : (b.take (st k)).length = st k := by rw [List.length_take, h3]; omega
    by_cases e : p = i
    · subst e
      rw [pgOf_same h1 h2 (by omega), hb, ← h0 p h2]
      simp only [List.getD]
      rw [List.getElem?_set_self (by omega)]
      rfl
    · rw [pgOf_other h1 h2 (by omega) e, ← h0 i hi]
      simp only [List.getD]
      rw [List.getElem?_set_ne e]

set_option maxRecDepth 100000 in
theorem kp_at (L page : Nat) (ks : List Int) (i : Nat) (hi : i < L) : ∀ j, (kp L page ks j).getD i 0 = kpR page i ks j
  | 0 => by simp [kp, kpR, List.getD, hi]
  | j + 1 => by
    have h0 := kp_at L page ks i hi j
    have hl := (kp_ok L page ks j).1
    unfold kp kpR
    by_cases e : ks.getD j 0 = (i : Int)
    · rw [if_pos (by omega), if_pos e, e, Int.toNat_natCast]
      simp only [List.getD]
      rw [List.getElem?_set_self (by omega)]
      rfl
    · rw [if_neg e]
      split
      · rename_i hc
        have ne : (ks.getD j 0).toNat ≠ i := by omega
        generalize (ks.getD j 0).toNat = t at ne ⊢
        have e3 : ((kp L page ks j).set t (page : Int)).getD i 0 = (kp L page ks j).getD i 0 := by
          simp only [List.getD]
          rw [List.getElem?_set_ne ne]
        rw [e3]
        exact h0
      · exact h0
set_option maxRecDepth 100000 in
theorem kpR_le (page i : Nat) (ks : List Int) : ∀ j, 0 ≤ kpR page i ks j ∧ kpR page i ks j ≤ page
  | 0 => ⟨Int.le_refl _, by simp [kpR]⟩
  | j + 1 => by
    unfold kpR
    split
    · omega
    · exact kpR_le page i ks j
set_option maxRecDepth 100000 in
theorem stays_at (L page : Nat) (ks : List Int) (tn ta : Int) (i : Nat) (hi : i < L) : ((stays L page ks tn ta).getD i 0).toNat = stR page ks tn ta i ∧ ((stays L page ks tn ta).getD i 0).toNat ≤ page := by
  have h1 := (stays_ok L page ks tn ta).2 i
  refine ⟨?_, by omega⟩
  have h2 := kp_at L page ks i hi ks.length
  have h3 := kpR_le page i ks ks.length
  have hl := (kp_ok L page ks ks.length).1
  unfold stays stR amR
  by_cases e : tn = (i : Int)
  · rw [if_pos (by omega), if_pos e, e, Int.toNat_natCast]
    simp only [List.getD]
    rw [List.getElem?_set_self (by omega)]
    rfl
  · rw [if_neg e]
    have e2 : (if 0 ≤ tn ∧ tn < L then (kp L page ks ks.length).set tn.toNat (min (max ta 0) page) else kp L page ks ks.length).getD i 0 = kpR page i ks ks.length := by
      split
      · simp only [List.getD] at h2 ⊢
        rw [List.getElem?_set_ne (by omega)]
        exact h2
      · exact h2
    rw [e2]
    congr 1
    omega

set_option maxRecDepth 100000 in
theorem last_none (pages n : Nat) : (List.replicate pages (0 : Int)).getD n 0 = 0 := by
  simp only [List.getD, List.getElem?_replicate]
  split <;> rfl
set_option maxRecDepth 100000 in
theorem Tw.fallen {d : D} {r : R} (h : Tw d r) (ks : List Int) (tn ta : Int) : Tw (d.fallen ks tn ta) (r.fallen ks tn ta) := by
  have hst : ∀ k, k < d.loose.length → ((stays d.loose.length d.page ks tn ta).getD k 0).toNat = stR d.page ks tn ta k ∧ ((stays d.loose.length d.page ks tn ta).getD k 0).toNat ≤ d.page := fun k hk => stays_at _ _ ks tn ta k hk
  refine ⟨h.page, ?_, ?_, lay_len _ h.ns h.all _ (Nat.le_refl _), rfl, (fun x hx => by cases hx), by simp [D.fallen], fun n _ => last_none _ _, rfl, rfl, (fun e => by cases e), h.cr, h.cw, h.cs⟩
  · show (layR _ _ _ _).length = _
    rw [layR_len]; exact h.pages
  · intro i hi
    show (layR r.wild (stR r.page ks tn ta) r.L r.wild.length).getD i [] = _
    rw [h.wild, h.page]
    exact lay_rows h.ns h.all h.pages h.rows hst _ (Nat.le_refl _) i hi
set_option maxRecDepth 100000 in
theorem Tw.synced {d : D} {r : R} (h : Tw d r) : Tw d.synced { r with L := layR r.wild (fun _ => r.page) r.L r.wild.length, wild := [], cs := r.cs + 1 } := by
  refine ⟨h.page, ?_, ?_, lay_len _ h.ns h.all _ (Nat.le_refl _), rfl, (fun x hx => by cases hx), by simp [D.synced], fun n _ => last_none _ _, h.down, h.armed, h.plan, h.cr, h.cw, by rw [h.cs]; rfl⟩
  · show (layR _ _ _ _).length = _
    rw [layR_len]; exact h.pages
  · intro i hi
    show (layR r.wild (fun _ => r.page) r.L r.wild.length).getD i [] = _
    rw [h.wild, h.page]
    exact lay_rows h.ns h.all h.pages h.rows (fun k _ => ⟨rfl, Nat.le_refl _⟩) _ (Nat.le_refl _) i hi
set_option maxRecDepth 100000 in
theorem Tw.wrote {d : D} {r : R} (h : Tw d r) {n : Nat} {b : List Int} (hn : n < d.pages) (hb : b.length = d.page) : Tw (d.wrote n b) { r with wild := r.wild ++ [(n, b)], cw := r.cw + 1 } := by
  refine ⟨h.page, h.pages, h.rows, h.ns, by rw [h.wild]; rfl, ?_, by simp [D.wrote, h.nl], ?_, h.down, h.armed, h.plan, h.cr, by rw [h.cw]; rfl, h.cs⟩
  · intro x hx
    rcases List.mem_append.1 hx with h1 | h1
    · exact h.all x h1
    · obtain rfl : x = (n, b) := by simpa using h1
      exact ⟨hn, hb⟩
  · intro m hm
    have hm' : m < d.pages := hm
    show (d.last.set n ((d.loose.length : Int) + 1)).getD m 0 = (lastW (d.loose ++ [(n, b)]) m (d.loose ++ [(n, b)]).length : Int)
    rw [List.length_append, List.length_singleton]
    have e : (d.loose ++ [(n, b)]).getD d.loose.length (0, []) = (n, b) := by simp [List.getD]
    unfold lastW
    rw [e, lastW_app _ _ _ _ (Nat.le_refl _)]
    simp only [List.getD]
    by_cases e2 : n = m
    · subst e2
      rw [List.getElem?_set_self (by rw [h.nl]; exact hn), if_pos rfl]
      simp
    · rw [List.getElem?_set_ne e2, if_neg e2]
      exact h.last m hm'
set_option maxRecDepth 100000 in
theorem Tw.arm {d : D} {r : R} (h : Tw d r) (acts : Int) (h0 : 0 ≤ acts) (ks : List Int) (tn ta : Int) : Tw (d.arm acts ks tn ta) (r.arm acts ks tn ta) :=
  ⟨h.page, h.pages, h.rows, h.ns, h.wild, h.all, h.nl, h.last, h.down, by simp [R.arm, D.arm, h0], fun _ => ⟨rfl, rfl, rfl, rfl⟩, h.cr, h.cw, h.cs⟩
set_option maxRecDepth 100000 in
theorem Tw.less {d : D} {r : R} (h : Tw d r) (ha : d.armed = true) : Tw { d with left := d.left - 1 } { r with acts := r.acts - 1 } :=
  ⟨h.page, h.pages, h.rows, h.ns, h.wild, h.all, h.nl, h.last, h.down, h.armed, fun _ => ⟨by show r.acts - 1 = d.left - 1; rw [(h.plan ha).1], (h.plan ha).2⟩, h.cr, h.cw, h.cs⟩
set_option maxRecDepth 100000 in
theorem Tw.read {d : D} {r : R} (h : Tw d r) : Tw { d with cr := d.cr + 1 } { r with cr := r.cr + 1 } :=
  ⟨h.page, h.pages, h.rows, h.ns, h.wild, h.all, h.nl, h.last, h.down, h.armed, h.plan, by show r.cr + 1 = d.cr + 1; rw [h.cr], h.cw, h.cs⟩
set_option maxRecDepth 100000 in
theorem Tw.up {d : D} {r : R} (h : Tw d r) : Tw { d with down := false } { r with down := false } :=
  ⟨h.page, h.pages, h.rows, h.ns, h.wild, h.all, h.nl, h.last, rfl, h.armed, h.plan, h.cr, h.cw, h.cs⟩
set_option maxRecDepth 100000 in
/-- The image: what a Sync would lay. -/
theorem imR_lay {page pages : Nat} {loose : List (Nat × List Int)} {safe : List Int} (h : ∀ x ∈ loose, x.1 < pages ∧ x.2.length = page) : ∀ k, k ≤ loose.length → imR page safe loose k = lay page loose (fun _ => page) safe k
  | 0, _ => rfl
  | k + 1, hk => by
    obtain ⟨_, h3⟩ := loose_at h (k := k) (by omega)
    unfold imR lay
    rw [imR_lay h k (by omega), List.take_of_length_le (by omega)]
set_option maxRecDepth 100000 in
theorem Tw.image {d : D} {r : R} (h : Tw d r) : imR r.page (flatR r.L r.L.length) r.wild r.wild.length = d.synced.safe := by
  rw [h.flat, h.wild, h.page, imR_lay h.all _ (Nat.le_refl _)]
  rfl
end Go.Proofs.Ytikpfcapnpppdaa
