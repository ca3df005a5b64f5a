/- The cache whole: what changes one page or one counter; renew, release, leaver. -/
import Derived.Test.YtmelhpghpcpoiabDd
import Derived.Test.YtmelhpghpcpoiabPl12
namespace Go.Proofs.Ytmelhpghpcpoiab
open Go.RowKit Go.Maps

set_option maxRecDepth 100000 in
theorem hd_upd {A B : List Fr} {f f' : Fr} (h : f'.b = f.b) (y : Option Nat) : hd (A ++ f' :: B) y = hd (A ++ f :: B) y := by
  cases A with
  | nil => show some f'.b = some f.b; rw [h]
  | cons x r => rfl
set_option maxRecDepth 100000 in
theorem lst_upd {A B : List Fr} {f f' : Fr} (h : f'.b = f.b) (o : Option Nat) : lst o (A ++ f' :: B) = lst o (A ++ f :: B) := by
  rw [lst_app, lst_app]
  show lst (some f'.b) B = lst (some f.b) B
  rw [h]
set_option maxRecDepth 100000 in
theorem map_upd {α : Type} (F : Fr → α) {A B : List Fr} {f f' : Fr} (h : F f' = F f) : (A ++ f' :: B).map F = (A ++ f :: B).map F := by simp [h]
set_option maxRecDepth 100000 in
theorem mem_upd {A B : List Fr} {f f' x : Fr} (h : x ∈ A ++ f' :: B) : x = f' ∨ (x ∈ A ++ f :: B ∧ x ∈ A ++ B) := by
  simp only [List.mem_append, List.mem_cons] at h ⊢
  rcases h with h | h | h
  · exact .inr ⟨.inl h, .inl h⟩
  · exact .inl h
  · exact .inr ⟨.inr (.inr h), .inr h⟩
set_option maxRecDepth 100000 in
theorem Rw.upd {w u : World} {c a : Nat} {fr h mi ev : Int} {m p : Nat} {A B : List Fr} {f f' : Fr} (r : Rw w c a fr h mi ev m p (A ++ f :: B)) (e : f'.b = f.b) (hf : Hs u f.b (lc p f' (lst none A) (hd B none)) tL) (hb : ∀ k, Own c (A ++ f :: B) k → k ≠ f.b → u.heap[k]? = w.heap[k]?) : Rw u c a fr h mi ev m p (A ++ f' :: B) := by
  obtain ⟨n1, n2, n3⟩ := r.ne
  have hr := r.hr
  rw [sg_app] at hr
  refine ⟨?_, ?_, ?_, fun x hx => ?_⟩
  · rw [hd_upd e, lst_upd e]
    exact (hb c (.inl rfl) (fun e => r.nc f (by simp) e.symm)).trans r.hc
  · rw [sg_app]
    refine ⟨?_, ?_, ?_⟩
    · show sg u p none A (some f'.b)
      rw [e]
      exact sg_stay hr.1 fun x hx => hb _ (.inr ⟨x, by simp [hx], rfl⟩) (n1 x hx)
    · rw [e]; exact hf
    · rw [e]
      exact sg_stay hr.2.2 fun x hx => hb _ (.inr ⟨x, by simp [hx], rfl⟩) (n2 x hx)
  · rw [map_upd Fr.b e]; exact r.nd
  · rcases mem_upd hx with rfl | ⟨h1, _⟩
    · rw [e]; exact r.nc f (by simp)
    · exact r.nc x h1
set_option maxRecDepth 100000 in
/-- One page changes: dirty or not, pins, bytes. -/
theorem Cw.upd {w u : World} {c a : Nat} {fr h mi ev : Int} {m p : Nat} {A B : List Fr} {f f' : Fr} (r : Cw w c a fr h mi ev m p (A ++ f :: B)) (e1 : f'.b = f.b) (e2 : f'.n = f.n) (e3 : f'.g = f.g) (hf : Hs u f.b (lc p f' (lst none A) (hd B none)) tL)
    (hg : Hs u f.g (By f'.l) 5) (hl : f'.l.length = p) (hw : Wf f'.l) (hb : ∀ k, Bk c m (A ++ f :: B) k → k ≠ f.b → k ≠ f.g → u.heap[k]? = w.heap[k]?) : Cw u c a fr h mi ev m p (A ++ f' :: B) := by
  obtain ⟨D, hm, hD⟩ := r.mp
  have fm : f ∈ A ++ f :: B := by simp
  obtain ⟨s1, s2, s3, s4⟩ := r.sep f fm
  obtain ⟨n1, n2, n3⟩ := r.row.ne
  have ng := r.ng
  have len : (A ++ f' :: B).length = (A ++ f :: B).length := by simp
  refine ⟨r.row.upd e1 hf fun k hk hne => ?_, fun x hx => ?_, ⟨D, ?_, ?_⟩, ?_, ?_, fun x hx => ?_, r.cm, fun x hx => ?_⟩
  · rcases hk with rfl | ⟨x, hx, rfl⟩
    · exact hb _ (.inl rfl) hne (fun e => s1 e.symm)
    · exact hb _ (.inr (.inr ⟨x, hx, .inl rfl⟩)) hne (s4 x hx)
  · rcases mem_upd (f := f) hx with rfl | ⟨h1, h2⟩
    · rw [e3]; exact ⟨hg, hl, hw⟩
    · obtain ⟨b1, b2, b3⟩ := r.bys x h1
      refine ⟨(hb _ (.inr (.inr ⟨x, h1, .inr rfl⟩)) (fun e => (r.sep x h1).2.2.2 f fm e.symm) ?_).trans b1, b2, b3⟩
      rw [List.map_append, List.map_cons, List.nodup_append, List.nodup_cons] at ng
      obtain ⟨_, ⟨g1, _⟩, g2⟩ := ng
      rcases List.mem_append.1 h2 with h | h
      · exact g2 _ (List.mem_map_of_mem h) _ (List.mem_cons_self ..)
      · exact fun e => g1 (e ▸ List.mem_map_of_mem h)
  · rw [len]; exact MapIs.stay hm (hb m (.inr (.inl rfl)) (fun e => s3 e.symm) (fun e => s2 e.symm))
  · refine hD.alike len (fun x hx => ?_) (fun y hy => ?_)
    · rcases mem_upd (f := f) hx with rfl | ⟨h1, _⟩
      · exact ⟨f, fm, e2.symm, e1.symm⟩
      · exact ⟨x, h1, rfl, rfl⟩
    · rcases mem_upd (f := f') hy with rfl | ⟨h1, _⟩
      · exact ⟨f', by simp, e2.symm⟩
      · exact ⟨y, h1, rfl⟩
  · rw [map_upd Fr.n e2]; exact r.np
  · rw [map_upd Fr.g e3]; exact r.ng
  · have hx4 : ∀ z : Fr, (∀ x ∈ A ++ f :: B, x.b ≠ z.g) → ∀ x ∈ A ++ f' :: B, x.b ≠ z.g := fun z hz x hx => by
      rcases mem_upd (f := f) hx with rfl | ⟨h1, _⟩
      · rw [e1]; exact hz f fm
      · exact hz x h1
    rcases mem_upd (f := f) hx with rfl | ⟨h1, _⟩
    · rw [e3, e1]; exact ⟨s1, s2, s3, hx4 f s4⟩
    · obtain ⟨t1, t2, t3, t4⟩ := r.sep x h1
      exact ⟨t1, t2, t3, hx4 x t4⟩
  · rcases mem_upd (f := f) hx with rfl | ⟨h1, _⟩
    · rw [e2]; exact r.wn f fm
    · exact r.wn x h1
set_option maxRecDepth 100000 in
/-- A counter changes. -/
theorem Cw.cnt {w u : World} {c a : Nat} {fr h mi ev h' mi' ev' : Int} {m p : Nat} {fs : List Fr} (r : Cw w c a fr h mi ev m p fs) (hc : Hs u c (cC a fr m (op (hd fs none)) (op (lst none fs)) h' mi' ev') tC) (hb : ∀ k, Bk c m fs k → k ≠ c → u.heap[k]? = w.heap[k]?) : Cw u c a fr h' mi' ev' m p fs := by
  obtain ⟨D, hm, hD⟩ := r.mp
  exact ⟨⟨hc, sg_stay r.row.hr fun f hf => hb _ (.inr (.inr ⟨f, hf, .inl rfl⟩)) (r.row.nc f hf), r.row.nd, r.row.nc⟩, fun f hf => ⟨(hb _ (.inr (.inr ⟨f, hf, .inr rfl⟩)) (r.sep f hf).1).trans (r.bys f hf).1, (r.bys f hf).2⟩, ⟨D, MapIs.stay hm (hb m (.inr (.inl rfl)) (Ne.symm r.cm)), hD⟩, r.np, r.ng, r.sep, r.cm, r.wn⟩
set_option maxRecDepth 100000 in
/-- The row is another one; the rest stays. -/
theorem Cw.rows {w u : World} {c a : Nat} {fr h mi ev : Int} {m p : Nat} {fs gs : List Fr} (r : Cw w c a fr h mi ev m p fs) (ru : Rw u c a fr h mi ev m p gs) (hp : gs.Perm fs) (hb : ∀ k, Bk c m fs k → ¬ Own c fs k → u.heap[k]? = w.heap[k]?) : Cw u c a fr h mi ev m p gs := by
  obtain ⟨D, hm, hD⟩ := r.mp
  have own : ∀ k, (k ≠ c) → (∀ x ∈ fs, x.b ≠ k) → ¬ Own c fs k := fun k h1 h2 h => by
    rcases h with h | ⟨x, hx, e⟩
    · exact h1 h
    · exact h2 x hx e.symm
  refine ⟨ru, fun f hf => ?_, ⟨D, ?_, hD.perm (fun x => hp.mem_iff) hp.length_eq⟩, (hp.map _).nodup_iff.2 r.np, (hp.map _).nodup_iff.2 r.ng, fun f hf => ?_, r.cm, fun f hf => r.wn f (hp.mem_iff.1 hf)⟩
  · have hf' := hp.mem_iff.1 hf
    obtain ⟨s1, s2, s3, s4⟩ := r.sep f hf'
    exact ⟨(hb _ (.inr (.inr ⟨f, hf', .inr rfl⟩)) (own _ s1 s4)).trans (r.bys f hf').1, (r.bys f hf').2⟩
  · rw [hp.length_eq]
    exact MapIs.stay hm (hb m (.inr (.inl rfl)) (own m (Ne.symm r.cm) fun x hx => (r.sep x hx).2.2.1))
  · obtain ⟨s1, s2, s3, s4⟩ := r.sep f (hp.mem_iff.1 hf)
    exact ⟨s1, s2, s3, fun x hx => s4 x (hp.mem_iff.1 hx)⟩
set_option maxRecDepth 100000 in
theorem bk_own {c m : Nat} {fs : List Fr} {k : Nat} (h : Own c fs k) : Bk c m fs k := by
  rcases h with h | ⟨x, hx, e⟩
  · exact .inl h
  · exact .inr (.inr ⟨x, hx, .inl e⟩)
set_option maxRecDepth 100000 in
theorem perm_used (A B : List Fr) (f : Fr) : (A ++ B ++ [f]).Perm (A ++ f :: B) := by
  rw [List.append_assoc]
  exact List.Perm.append_left A (List.perm_append_comm (l₁ := B) (l₂ := [f]))
set_option maxRecDepth 100000 in
theorem renew_cw (w : World) (c a : Nat) (fr h mi ev : Int) (m p : Nat) (A B : List Fr) (f : Fr) (r : Cw w c a fr h mi ev m p (A ++ f :: B)) :
    Calls Try.prog 23 #[.pointer (some ⟨c, 3, none⟩), pt f.b] w fun e u => e = .returned (.tuple #[]) ∧ Cw u c a fr h mi ev m p (A ++ B ++ [f]) ∧ Ch (Own c (A ++ f :: B)) w u ∧ u.heap.size = w.heap.size := by
  refine (renew_rw w c a fr h mi ev m p A B f r.row).mono ?_
  rintro e u ⟨rfl, ru, ku, zu⟩
  exact ⟨rfl, r.rows ru (perm_used A B f) fun k hk hn => ku.block k (r.lt hk) hn, ku, zu⟩
set_option maxRecDepth 100000 in
/-- A page is held no more. -/
theorem release_cw (w : World) (c a : Nat) (fr h mi ev : Int) (m p : Nat) (A B : List Fr) (f : Fr) (r : Cw w c a fr h mi ev m p (A ++ f :: B)) :
    Calls Try.prog 40 #[pt c, pt f.b] w fun e u => e = .returned (.tuple #[]) ∧ Cw u c a fr h mi ev m p (A ++ B) ∧ Ch (Bk c m (A ++ f :: B)) w u ∧ u.heap.size = w.heap.size := by
  have c2 : w.cell? ⟨c, 2, none⟩ = some (.map (some m)) := r.row.hc.cell 2
  have l0 : w.cell? ⟨f.b, 0, none⟩ = some (.int .i64 (f.n : Int)) := r.row.mid.cell 0
  have fm : f ∈ A ++ f :: B := by simp
  obtain ⟨D, hm, hD⟩ := r.mp
  have HD := hidden hD
  have HM := hidden hm
  have HR := hidden r
  have hfn := r.wn f fm
  obtain ⟨w1, hrun, hm1, ht1⟩ := World.ownsMap.drop (w := w.drew) hm kI Try.underlying51 (keyOf_int_mk Try.underlying3 (wfn hfn)) 0
  have k1 : Ch (fun k => k = m) w w1 := (Ch.dr _ w).trans (Ch.grown (F := fun k => k = m) ht1.grown fun k e => by cases e; rfl) fun _ _ h => h
  have z1 : w1.heap.size = w.heap.size := by
    obtain ⟨_, _, es', cl', _, e⟩ := ht1
    rw [e]
    show (w.drew.heap.setIfInBounds m _).size = _
    rw [Array.size_setIfInBounds]
    rfl
  have r1 := r.row.stay (u := w1) fun k hk => k1.block k (r.lt (bk_own hk)) fun e => by
    subst e
    rcases hk with e | ⟨x, hx, e⟩
    · exact r.cm e.symm
    · exact (r.sep x hx).2.2.1 e.symm
  have h2 := remove_rw w1 c a fr h mi ev m p A B f r1
  have F2 : Hid (∀ u, Rw u c a fr h mi ev m p (A ++ B) → Ch (Own c (A ++ f :: B)) w1 u → Cw u c a fr h mi ev m p (A ++ B) ∧ Ch (Bk c m (A ++ f :: B)) w u) := by
    refine hidden fun u ru ku => ⟨?_, (k1.mono (F := Bk c m (A ++ f :: B)) fun k _ e => .inr (.inl e)).trans ku fun k _ h => bk_own h⟩
    have sub : ∀ x ∈ A ++ B, x ∈ A ++ f :: B := fun x hx => by
      rcases List.mem_append.1 hx with h | h <;> simp [h]
    have np := r.np
    have ng := r.ng
    rw [List.map_append, List.map_cons, List.nodup_append, List.nodup_cons] at np ng
    have hn : ∀ x ∈ A ++ B, x.n ≠ f.n := fun x hx => by
      rcases List.mem_append.1 hx with h | h
      · exact np.2.2 _ (List.mem_map_of_mem h) _ (List.mem_cons_self ..)
      · exact fun e => np.2.1.1 (e ▸ List.mem_map_of_mem h)
    have hD2 := HD.out.del hn
    refine ⟨ru, fun x hx => ?_, ⟨_, ?_, hD2⟩, ?_, ?_, fun x hx => ?_, r.cm, fun x hx => r.wn x (sub x hx)⟩
    · obtain ⟨b1, b2, b3⟩ := r.bys x (sub x hx)
      obtain ⟨s1, s2, s3, s4⟩ := r.sep x (sub x hx)
      refine ⟨((ku.block x.g (Nat.lt_of_lt_of_le b1.lt k1.size) ?_).trans (k1.block x.g b1.lt s2)).trans b1, b2, b3⟩
      rintro (e | ⟨y, hy, e⟩)
      · exact s1 e
      · exact s4 y hy e.symm
    · have := MapIs.tight (MapIs.ch hm1 ku (by
        rintro (e | ⟨y, hy, e⟩)
        · exact r.cm e.symm
        · exact (r.sep y hy).2.2.1 e.symm))
      rw [hD2.sz] at this
      exact this
    · rw [List.map_append, List.nodup_append]
      exact ⟨np.1, np.2.1.2, fun x hx y hy => np.2.2 x hx y (List.mem_cons_of_mem _ hy)⟩
    · rw [List.map_append, List.nodup_append]
      exact ⟨ng.1, ng.2.1.2, fun x hx y hy => ng.2.2 x hx y (List.mem_cons_of_mem _ hy)⟩
    · obtain ⟨s1, s2, s3, s4⟩ := r.sep x (sub x hx)
      exact ⟨s1, s2, s3, fun y hy => s4 y (sub y hy)⟩
  have HZ := hidden z1
  have H2 := hidden h2
  have c3 : w1.cell? ⟨c, 3, none⟩ = some _ := r1.hc.cell 3
  clear hm hD r r1 h2 k1 hm1 ht1 z1 HD HM HR
  go_enter Try.func40, Try.ntmps40
  go_wp2_with fail
  go_region
  all_goals
    go_wp2_with (go_at_call 34; refine H2.out.mono ?_; rintro e u ⟨rfl, ru, _, ku, zu⟩)
    go_end0
    exact ⟨rfl, (F2.out u ru ku).1, (F2.out u ru ku).2, zu.trans HZ.out⟩
end Go.Proofs.Ytmelhpghpcpoiab
