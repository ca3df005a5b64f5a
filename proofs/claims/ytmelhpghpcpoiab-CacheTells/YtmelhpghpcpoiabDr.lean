/- CacheTells: what the loop carries. -/
import Derived.Test.YtmelhpghpcpoiabDq
import Derived.Test.YtmelhpghpcpoiabDm
import Derived.Test.YtmelhpghpcpoiabIp
namespace Go.Proofs.Ytmelhpghpcpoiab
open Go.RowKit Go.Maps

/-- Between two steps: the cache, its device, the two rows of numbers. -/
structure Lv (w0 w : World) (X : Nat → Prop) (a c m gi gp : Nat) (d : D) (fr h mi ev : Int) (fs : List Fr) (iv pv : List Int) (t s : Nat) : Prop where
  x : Cx w0 w X a c m d fr h mi ev fs
  T : Tl fr d fs iv pv h mi ev t s
  hi : Hs w gi (In iv) 3
  hp : Hs w gp (In pv) 3
  xi : X gi
  xp : X gp
  bi : ¬ Bk c m fs gi
  bp : ¬ Bk c m fs gp
  ne : gi ≠ gp
  g0 : w0.heap.size ≤ gi ∧ w0.heap.size ≤ gp
set_option maxRecDepth 100000 in
theorem Lv.page {w0 w u : World} {X : Nat → Prop} {a c m gi gp : Nat} {d : D} {fr h mi ev : Int} {fs : List Fr} {iv pv : List Int} {t s : Nat} (L : Lv w0 w X a c m gi gp d fr h mi ev fs iv pv t s) (hb : Below w.heap.size w u) : Lv w0 u (Xn X w u) a c m gi gp d fr h mi ev fs iv pv t s :=
  ⟨⟨L.x.st.page hb, L.x.cw.stay fun k hk => hb.block k (L.x.cw.lt hk), fun k hk => ⟨.inl (L.x.bx k hk).1, (L.x.bx k hk).2⟩⟩, L.T, (hb.block _ L.hi.lt).trans L.hi, (hb.block _ L.hp.lt).trans L.hp, .inl L.xi, .inl L.xp, L.bi, L.bp, L.ne, L.g0⟩
set_option maxRecDepth 100000 in
theorem Lv.after {w0 w u : World} {X Y : Nat → Prop} {a c m gi gp : Nat} {d d' : D} {fr h mi ev h' mi' ev' : Int} {fs fs' : List Fr} {iv pv : List Int} {t s t' s' : Nat} (L : Lv w0 w X a c m gi gp d fr h mi ev fs iv pv t s) (x : Cx w0 u Y a c m d' fr h' mi' ev' fs') (k : Kp X c m fs w u) (hY : ∀ k, X k → Y k) (hN : ∀ k, X k → Bk c m fs' k → Bk c m fs k) (T : Tl fr d' fs' iv pv h' mi' ev' t' s') : Lv w0 u Y a c m gi gp d' fr h' mi' ev' fs' iv pv t' s' :=
  ⟨x, T, (k gi L.xi L.bi).trans L.hi, (k gp L.xp L.bp).trans L.hp, hY _ L.xi, hY _ L.xp, fun hb => L.bi (hN _ L.xi hb), fun hb => L.bp (hN _ L.xp hb), L.ne, L.g0⟩
set_option maxRecDepth 100000 in
/-- One of the two rows of numbers is written; what T says is said of it. -/
theorem Lv.set {w0 w : World} {X : Nat → Prop} {a c m gi gp : Nat} {d : D} {fr h mi ev : Int} {fs : List Fr} {iv pv iv' pv' : List Int} {t' s' : Nat} (x : Cx w0 w X a c m d fr h mi ev fs) (T : Tl fr d fs iv' pv' h mi ev t' s') (hi : Hs w gi (In iv) 3) (hp : Hs w gp (In pv) 3) (xi : X gi) (xp : X gp) (bi : ¬ Bk c m fs gi) (bp : ¬ Bk c m fs gp) (ne : gi ≠ gp) (hb0 : w0.heap.size ≤ gi ∧ w0.heap.size ≤ gp)
    (g n : Nat) (v : Int) (hg : (g = gi ∧ iv' = iv.set n v ∧ pv' = pv) ∨ (g = gp ∧ pv' = pv.set n v ∧ iv' = iv)) : Lv w0 (w.setCell ⟨g, n, none⟩ (.int .i64 v)) X a c m gi gp d fr h mi ev fs iv' pv' t' s' := by
  have hgX : X g ∧ ¬ Bk c m fs g ∧ w0.heap.size ≤ g := by
    rcases hg with ⟨rfl, _⟩ | ⟨rfl, _⟩
    · exact ⟨xi, bi, hb0.1⟩
    · exact ⟨xp, bp, hb0.2⟩
  have hk : Ch (fun k => k = g) w (w.setCell ⟨g, n, none⟩ (.int .i64 v)) := Ch.setCell (F := fun k => k = g) w (p := ⟨g, n, none⟩) rfl _
  have st := x.st.cx hk (fun k _ e => by subst e; exact ⟨hgX.1, hgX.2.2⟩)
  have st' : St w0 (w.setCell ⟨g, n, none⟩ (.int .i64 v)) X a d := by
    obtain ⟨⟨F, hD, hF⟩, hx, hb⟩ := st
    exact ⟨⟨F, hD, fun k hk => ⟨(hF k hk).1, (hF k hk).2.1, fun hX => (hF k hk).2.2 (.inl hX)⟩⟩, fun k hk => hx k (.inl hk), hb⟩
  refine ⟨⟨st', x.cw.stay fun k hk => heap_ne (fun e => hgX.2.1 (by rw [← e]; exact hk)) _, x.bx⟩, T, ?_, ?_, xi, xp, bi, bp, ne, hb0⟩
  · rcases hg with ⟨rfl, rfl, _⟩ | ⟨rfl, _, rfl⟩
    · have := Hs.self (i := n) hi (.int .i64 v)
      rw [show (In iv).set n (.int .i64 v) = In (iv.set n v) from by simp [In, List.map_set]] at this
      exact this
    · exact Hs.other hi ne _
  · rcases hg with ⟨rfl, _, rfl⟩ | ⟨rfl, rfl, _⟩
    · exact Hs.other hp (Ne.symm ne) _
    · have := Hs.self (i := n) hp (.int .i64 v)
      rw [show (In pv).set n (.int .i64 v) = In (pv.set n v) from by simp [In, List.map_set]] at this
      exact this
set_option maxRecDepth 100000 in
theorem Lv.fine {w0 w : World} {X : Nat → Prop} {a c m gi gp : Nat} {d : D} {fr h mi ev : Int} {fs : List Fr} {iv pv : List Int} {t s : Nat} (L : Lv w0 w X a c m gi gp d fr h mi ev fs iv pv t s) (ht : t < 4398046511103) (hs : s < 4611686018427387904) : Fine d fs h mi ev := by
  have T := L.T
  have := T.cr; have := T.cw; have := T.lo; have := T.hh; have := T.mm; have := T.ee; have := T.le; have := T.f1
  refine ⟨⟨T.dn, T.ar, by omega, by omega, by omega, by omega, by omega, fun f hf => by rw [T.ps]; exact T.fn f hf, fun f hf => ?_⟩, by omega, by omega, by omega, by omega, by omega, by omega, by omega⟩
  rw [T.fp f hf]
  have := (T.wp f.n (T.fn f hf)).2
  omega
set_option maxRecDepth 100000 in
theorem Lv.ld {w0 w : World} {X : Nat → Prop} {a c m gi gp : Nat} {d : D} {fr h mi ev : Int} {fs : List Fr} {iv pv : List Int} {t s : Nat} (L : Lv w0 w X a c m gi gp d fr h mi ev fs iv pv t s) : LD d := by
  obtain ⟨F, hD⟩ := L.x.st.dv
  exact hD.ld
set_option maxRecDepth 100000 in
theorem Nw.nx {w0 w : World} {X : Nat → Prop} {a c m : Nat} {d : D} {fr h mi ev : Int} {fs gs : List Fr} (x : Cx w0 w X a c m d fr h mi ev fs) (hN : Nw w c m fs gs) : ∀ k, X k → Bk c m gs k → Bk c m fs k := fun k hk hb => by
  rcases hN k hb with h | h
  · exact h
  · have := x.st.xl k hk
    omega
/-- How many pages the law holds to be pinned. -/
def pk (pv : List Int) (k : Nat) : Nat := ((List.range k).filter fun n => decide (0 < pv.getD n 0)).length
set_option maxRecDepth 100000 in
theorem pk_succ (pv : List Int) (k : Nat) : pk pv (k + 1) = pk pv k + (if 0 < pv.getD k 0 then 1 else 0) := by
  unfold pk
  rw [List.range_succ, List.filter_append, List.length_append]
  congr 1
  by_cases h : 0 < pv.getD k 0
  · rw [List.filter_cons_of_pos (by simpa using h), if_pos h]; rfl
  · rw [List.filter_cons_of_neg (by simpa using h), if_neg h]; rfl
set_option maxRecDepth 100000 in
theorem Tl.pk {fr : Int} {d : D} {fs : List Fr} {iv pv : List Int} {h mi ev : Int} {t s : Nat} (T : Tl fr d fs iv pv h mi ev t s) : pc fs = pk pv 8 := by
  unfold pc Go.Proofs.Ytmelhpghpcpoiab.pk
  rw [← List.length_map (f := Fr.n)]
  refine List.Perm.length_eq ((List.perm_ext_iff_of_nodup (List.Nodup.sublist ((List.filter_sublist).map Fr.n) T.np) (List.Nodup.sublist List.filter_sublist List.nodup_range)).2 fun n => ?_)
  constructor
  · intro hn
    obtain ⟨f, hf, rfl⟩ := List.mem_map.1 hn
    obtain ⟨hf1, hf2⟩ := List.mem_filter.1 hf
    refine List.mem_filter.2 ⟨List.mem_range.2 (T.fn f hf1), ?_⟩
    have := T.fp f hf1
    simp at hf2 ⊢
    rw [← List.getD_eq_getElem?_getD, ← this]
    omega
  · intro hn
    obtain ⟨h1, h2⟩ := List.mem_filter.1 hn
    have h1' := List.mem_range.1 h1
    have h2' : 0 < pv.getD n 0 := by simpa using h2
    by_cases hin : ∃ f ∈ fs, f.n = n
    · obtain ⟨f, hf, rfl⟩ := hin
      refine List.mem_map.2 ⟨f, List.mem_filter.2 ⟨hf, ?_⟩, rfl⟩
      have := T.fp f hf
      simp
      omega
    · have := (T.no n h1' fun f hf e => hin ⟨f, hf, e⟩).1
      omega
set_option maxRecDepth 100000 in
theorem lv_all {fs : List Fr} (h : lv fs = none) : pc fs = fs.length := by
  unfold pc
  rw [List.filter_eq_self.2]
  intro f hf
  have := List.find?_eq_none.1 h f hf
  simpa using this
end Go.Proofs.Ytmelhpghpcpoiab
