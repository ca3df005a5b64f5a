/- The cache whole: its struct, its row, its map, its pages' bytes; hold, release, leaver. -/
import Derived.Test.YtmelhpghpcpoiabDc
import Derived.Test.YtmelhpghpcpoiabCb
namespace Go.Proofs.Ytmelhpghpcpoiab
open Go.RowKit Go.Maps

/-- The blocks of a cache. -/
def Bk (c m : Nat) (fs : List Fr) (k : Nat) : Prop := k = c ∨ k = m ∨ ∃ f ∈ fs, k = f.b ∨ k = f.g
structure Cw (w : World) (c a : Nat) (fr h mi ev : Int) (m p : Nat) (fs : List Fr) : Prop where
  row : Rw w c a fr h mi ev m p fs
  bys : ∀ f ∈ fs, Hs w f.g (By f.l) 5 ∧ f.l.length = p ∧ Wf f.l
  mp : ∃ D, MapIs w m fs.length D ∧ MD D fs
  np : (fs.map Fr.n).Nodup
  ng : (fs.map Fr.g).Nodup
  sep : ∀ f ∈ fs, f.g ≠ c ∧ f.g ≠ m ∧ f.b ≠ m ∧ ∀ x ∈ fs, x.b ≠ f.g
  cm : c ≠ m
  wn : ∀ f ∈ fs, f.n ≤ 65536
set_option maxRecDepth 100000 in
theorem wfn {n : Nat} (h : n ≤ 65536) : (Lit.int .i64 (n : Int)).wf = true := WalkArith.wf_i64 (by omega)
set_option maxRecDepth 100000 in
theorem MapIs.tight {w : World} {m n : Nat} {D : DataW Unit} (h : MapIs w m n D) : MapIs w m (Maps.size D) D := by
  obtain ⟨es, clock, hb, F, hs, hD⟩ := h
  refine ⟨es, clock, hb, F, ?_, hD⟩
  rw [hD]
  show es.size ≤ List.length _
  rw [length_read]
  exact Nat.le_refl _
set_option maxRecDepth 100000 in
theorem Rw.stay {w u : World} {c a : Nat} {fr h mi ev : Int} {m p : Nat} {fs : List Fr} (r : Rw w c a fr h mi ev m p fs) (hb : ∀ k, Own c fs k → u.heap[k]? = w.heap[k]?) : Rw u c a fr h mi ev m p fs :=
  ⟨(hb c (.inl rfl)).trans r.hc, sg_stay r.hr fun f hf => hb _ (.inr ⟨f, hf, rfl⟩), r.nd, r.nc⟩
set_option maxRecDepth 100000 in
theorem MapIs.stay {w u : World} {m n : Nat} {D : DataW Unit} (h : MapIs w m n D) (hb : u.heap[m]? = w.heap[m]?) : MapIs u m n D := by
  obtain ⟨es, clock, hm, F, hs, hD⟩ := h
  exact ⟨es, clock, hb.trans hm, F, hs, hD⟩
set_option maxRecDepth 100000 in
theorem Cw.stay {w u : World} {c a : Nat} {fr h mi ev : Int} {m p : Nat} {fs : List Fr} (r : Cw w c a fr h mi ev m p fs) (hb : ∀ k, Bk c m fs k → u.heap[k]? = w.heap[k]?) : Cw u c a fr h mi ev m p fs := by
  obtain ⟨D, hm, hd⟩ := r.mp
  refine ⟨r.row.stay fun k hk => hb k ?_, fun f hf => ⟨(hb _ (.inr (.inr ⟨f, hf, .inr rfl⟩))).trans (r.bys f hf).1, (r.bys f hf).2⟩, ⟨D, MapIs.stay hm (hb m (.inr (.inl rfl))), hd⟩, r.np, r.ng, r.sep, r.cm, r.wn⟩
  rcases hk with h | ⟨f, hf, e⟩
  · exact .inl h
  · exact .inr (.inr ⟨f, hf, .inl e⟩)
set_option maxRecDepth 100000 in
theorem Cw.lt {w : World} {c a : Nat} {fr h mi ev : Int} {m p : Nat} {fs : List Fr} (r : Cw w c a fr h mi ev m p fs) {k : Nat} (hk : Bk c m fs k) : k < w.heap.size := by
  rcases hk with rfl | rfl | ⟨f, hf, rfl | rfl⟩
  · exact r.row.hc.lt
  · obtain ⟨D, hm, _⟩ := r.mp
    exact World.ownsMap.lt hm
  · obtain ⟨o, y, h⟩ := sg_mem r.row.hr hf
    exact h.lt
  · exact (r.bys f hf).1.lt
set_option maxRecDepth 100000 in
theorem Cw.drw {w : World} {c a : Nat} {fr h mi ev : Int} {m p : Nat} {fs : List Fr} (r : Cw w c a fr h mi ev m p fs) : Cw w.drew c a fr h mi ev m p fs := r.stay fun _ _ => rfl

/-- A page that was held by nobody is held. -/
def HoldW (w : World) (c a : Nat) (fr h mi ev : Int) (m p : Nat) (fs : List Fr) (n g : Nat) (l : List Int) (e : Ending) (u : World) : Prop :=
  ∃ b, e = .returned (pt b) ∧ w.heap.size ≤ b ∧ Cw u c a fr h mi ev m p (fs ++ [⟨n, g, false, 0, b, l⟩]) ∧ Ch (Bk c m fs) w u
set_option maxRecDepth 100000 in
theorem hold_cw (w : World) (c a : Nat) (fr h mi ev : Int) (m p : Nat) (fs : List Fr) (n g : Nat) (l : List Int) (r : Cw w c a fr h mi ev m p fs) (hn : n ≤ 65536) (hnf : ∀ f ∈ fs, f.n ≠ n) (hg : Hs w g (By l) 5) (hl : l.length = p) (hw : Wf l) (hgb : ¬ Bk c m fs g) (hlen : fs.length < 65536) :
    Calls Try.prog 22 #[pt c, .int .i64 (n : Int), .slice (some ⟨g, 0, none⟩) p p] w fun e u => HoldW w c a fr h mi ev m p fs n g l e u := by
  have c2 : w.cell? ⟨c, 2, none⟩ = some (.map (some m)) := r.row.hc.cell 2
  obtain ⟨D, hm, hD⟩ := r.mp
  have HR := hidden r
  have hmlt := World.ownsMap.lt hm
  have hclt : c < w.heap.size := r.lt (.inl rfl)
  have hown : MapIs (w.alloc (.cells (cL (n : Int) (.slice (some ⟨g, 0, none⟩) p p) false 0 (.pointer none) (.pointer none)).toArray tL)) m fs.length D := World.ownsMap.alloc hm _
  have HO := hidden hown
  have HD := hidden hD
  have HG := hidden hg
  have HGB := hidden hgb
  have HNF := hidden hnf
  have HW := hidden hw
  clear r hm hown hD hg hgb hnf hw
  go_enter Try.func22, Try.ntmps22
  go_wp2_with (at_mapUpdate; refine wpList_mapUpdate_own _ rfl _ _ _ 51 rfl 3 52 kI Try.underlying51 mR m fs.length _ rfl HO.out (by unfold maxLen; omega) _ _ _ rfl rfl (keyOf_int_mk Try.underlying3 (wfn hn)) _ [] (mR_mk w.heap.size) ?_)
  intro w1 hown1 hg1
  have r := HR.out
  have k1 : Ch (fun k => k = m) w w1 := (Ch.alloc _ w _).trans (Ch.grown (F := fun k => k = m) hg1 fun k e => by cases e; rfl) fun _ _ h => h
  have hst : ∀ k, Own c fs k → w1.heap[k]? = w.heap[k]? := fun k hk => by
    refine k1.block k (r.lt ?_) ?_
    · rcases hk with h | ⟨f, hf, e⟩
      · exact .inl h
      · exact .inr (.inr ⟨f, hf, .inl e⟩)
    · rcases hk with rfl | ⟨f, hf, rfl⟩
      · exact r.cm
      · exact (r.sep f hf).2.2.1
  have r1 := r.row.stay hst
  have hl1 : Hs w1 w.heap.size (lc p ⟨n, g, false, 0, w.heap.size, l⟩ none none) tL := (hg1.block w.heap.size (by simp) (fun e => by cases e; omega)).trans (al_row _ _)
  have hfb : ∀ x ∈ fs, x.b ≠ w.heap.size := fun x hx e => by have := r.lt (k := x.b) (.inr (.inr ⟨x, hx, .inl rfl⟩)); omega
  have hcb : w.heap.size ≠ c := fun e => by have := r.lt (k := c) (.inl rfl); omega
  have h2 := addrow w1 c a fr h mi ev m p fs ⟨n, g, false, 0, w.heap.size, l⟩ none r1 hl1 hfb hcb
  have hgl := HG.out.lt
  have F2 : Hid (∀ u, Rw u c a fr h mi ev m p (fs ++ [⟨n, g, false, 0, w.heap.size, l⟩]) → Ch (Own c (fs ++ [⟨n, g, false, 0, w.heap.size, l⟩])) w1 u → HoldW w c a fr h mi ev m p fs n g l (.returned (pt w.heap.size)) u) := by
    refine hidden fun u ru ku => ?_
    have hmO : ¬ Own c (fs ++ [⟨n, g, false, 0, w.heap.size, l⟩]) m := by
      rintro (e | ⟨x, hx, e⟩)
      · exact r.cm e.symm
      · rcases List.mem_append.1 hx with hx | hx
        · exact (r.sep x hx).2.2.1 e.symm
        · obtain rfl : x = ⟨n, g, false, 0, w.heap.size, l⟩ := by simpa using hx
          exact absurd e (by show ¬ m = w.heap.size; omega)
    have hgst : ∀ k, (∀ x ∈ fs, k ≠ x.b) → k ≠ c → k ≠ m → k < w.heap.size → u.heap[k]? = w.heap[k]? := fun k e1 e2 e3 e4 => by
      refine (ku.block k (Nat.lt_of_lt_of_le e4 k1.size) ?_).trans (k1.block k e4 e3)
      rintro (e | ⟨x, hx, e⟩)
      · exact e2 e
      · rcases List.mem_append.1 hx with hx | hx
        · exact e1 x hx e
        · obtain rfl : x = ⟨n, g, false, 0, w.heap.size, l⟩ := by simpa using hx
          exact absurd e (by show ¬ k = w.heap.size; omega)
    have gb := HGB.out
    have g1 : ∀ x ∈ fs, g ≠ x.b := fun x hx e => gb (.inr (.inr ⟨x, hx, .inl e⟩))
    have g2 : ∀ x ∈ fs, g ≠ x.g := fun x hx e => gb (.inr (.inr ⟨x, hx, .inr e⟩))
    have g3 : g ≠ c := fun e => gb (.inl e)
    have g4 : g ≠ m := fun e => gb (.inr (.inl e))
    refine ⟨w.heap.size, rfl, Nat.le_refl _, ⟨ru, fun f hf => ?_, ⟨_, ?_, HD.out.put (f := ⟨n, g, false, 0, w.heap.size, l⟩) (fun x hx => HNF.out x hx)⟩, ?_, ?_, fun f hf => ?_, r.cm, fun f hf => ?_⟩, ?_⟩
    · rcases List.mem_append.1 hf with hf | hf
      · obtain ⟨b1, b2, b3⟩ := r.bys f hf
        obtain ⟨s1, s2, s3, s4⟩ := r.sep f hf
        exact ⟨(hgst f.g (fun x hx e => s4 x hx e.symm) s1 s2 b1.lt).trans b1, b2, b3⟩
      · obtain rfl : f = ⟨n, g, false, 0, w.heap.size, l⟩ := by simpa using hf
        exact ⟨(hgst g g1 g3 g4 hgl).trans HG.out, hl, HW.out⟩
    · have := MapIs.tight (MapIs.ch hown1 ku hmO)
      rw [(HD.out.put (f := ⟨n, g, false, 0, w.heap.size, l⟩) (fun x hx => HNF.out x hx)).sz] at this
      exact this
    · rw [List.map_append, List.nodup_append]
      refine ⟨r.np, by simp, fun x hx y hy => ?_⟩
      obtain ⟨x', h1, rfl⟩ := List.mem_map.1 hx
      obtain rfl : y = n := by simpa using hy
      exact HNF.out x' h1
    · rw [List.map_append, List.nodup_append]
      refine ⟨r.ng, by simp, fun x hx y hy => ?_⟩
      obtain ⟨x', h1, rfl⟩ := List.mem_map.1 hx
      obtain rfl : y = g := by simpa using hy
      exact fun e => g2 x' h1 e.symm
    · rcases List.mem_append.1 hf with hf | hf
      · obtain ⟨s1, s2, s3, s4⟩ := r.sep f hf
        refine ⟨s1, s2, s3, fun x hx => ?_⟩
        rcases List.mem_append.1 hx with hx | hx
        · exact s4 x hx
        · obtain rfl : x = ⟨n, g, false, 0, w.heap.size, l⟩ := by simpa using hx
          have := (r.bys f hf).1.lt
          show w.heap.size ≠ f.g
          omega
      · obtain rfl : f = ⟨n, g, false, 0, w.heap.size, l⟩ := by simpa using hf
        refine ⟨g3, g4, by show w.heap.size ≠ m; omega, fun x hx => ?_⟩
        rcases List.mem_append.1 hx with hx | hx
        · exact fun e => g1 x hx e.symm
        · obtain rfl : x = ⟨n, g, false, 0, w.heap.size, l⟩ := by simpa using hx
          show w.heap.size ≠ g
          omega
    · rcases List.mem_append.1 hf with hf | hf
      · exact r.wn f hf
      · obtain rfl : f = ⟨n, g, false, 0, w.heap.size, l⟩ := by simpa using hf
        exact hn
    · refine (k1.mono (F := Bk c m fs) fun k _ e => .inr (.inl e)).trans ku fun k hk e => ?_
      rcases e with e | ⟨x, hx, e⟩
      · exact .inl e
      · rcases List.mem_append.1 hx with hx | hx
        · exact .inr (.inr ⟨x, hx, .inl e⟩)
        · obtain rfl : x = ⟨n, g, false, 0, w.heap.size, l⟩ := by simpa using hx
          exact absurd e (by show ¬ k = w.heap.size; omega)
  have H2 := hidden h2
  clear h2 r1 hl1 hst hown1 hg1 k1 r HR HO HD HG HGB HNF HW hfb hcb c2
  generalize hL : w.heap.size = L at *
  go_wp2_with (go_at_call 33; refine H2.out.mono ?_; rintro e w2 ⟨rfl, r2, k2, s2⟩)
  go_ret
  exact F2.out _ r2 k2
end Go.Proofs.Ytmelhpghpcpoiab
