/- Layer 6: the pair's lists grow. -/
import Derived.Test.YtphjnahmbdinmaaGreatDoorJ42
import Derived.Test.YtphjnahmbdinmaaGreatDoorP6c
import Derived.Test.YtphjnahmbdinmaaGreatDoorJ38
namespace Go.Proofs.YtphjnahmbdinmaaGreatDoor
open Go.RowKit

set_option maxRecDepth 100000 in
theorem PX.free {w : World} {X a r : Nat} {v1 v2 v3 v4 : Value} (h : PX w X a r v1 v2 v3 v4) (i : Nat) : w.frozen? ⟨X, i, none⟩ = false := by
  unfold PX at h
  simp [World.frozen?, h]
set_option maxRecDepth 100000 in
theorem PX.set {w : World} {X a r : Nat} {v1 v2 v3 v4 : Value} (h : PX w X a r v1 v2 v3 v4) (v : Value) :
    PX (w.setCell ⟨X, 2, none⟩ v) X a r v v2 v3 v4 ∧ PX (w.setCell ⟨X, 3, none⟩ v) X a r v1 v v3 v4 ∧ PX (w.setCell ⟨X, 4, none⟩ v) X a r v1 v2 v v4 ∧ PX (w.setCell ⟨X, 5, none⟩ v) X a r v1 v2 v3 v := by
  unfold PX at *
  refine ⟨?_, ?_, ?_, ?_⟩
  · simpa using set_row (w := w) (a := X) (i := 2) (cs := [.pointer (some ⟨a, 0, none⟩), .pointer (some ⟨r, 0, none⟩), v1, v2, v3, v4]) (u := v) h
  · simpa using set_row (w := w) (a := X) (i := 3) (cs := [.pointer (some ⟨a, 0, none⟩), .pointer (some ⟨r, 0, none⟩), v1, v2, v3, v4]) (u := v) h
  · simpa using set_row (w := w) (a := X) (i := 4) (cs := [.pointer (some ⟨a, 0, none⟩), .pointer (some ⟨r, 0, none⟩), v1, v2, v3, v4]) (u := v) h
  · simpa using set_row (w := w) (a := X) (i := 5) (cs := [.pointer (some ⟨a, 0, none⟩), .pointer (some ⟨r, 0, none⟩), v1, v2, v3, v4]) (u := v) h
set_option maxRecDepth 100000 in
theorem PX.set0 {w : World} {X a r : Nat} {v1 v2 v3 v4 : Value} (h : PX w X a r v1 v2 v3 v4) (a' : Nat) : PX (w.setCell ⟨X, 0, none⟩ (.pointer (some ⟨a', 0, none⟩))) X a' r v1 v2 v3 v4 := by
  unfold PX at *
  simpa using set_row (w := w) (a := X) (i := 0) (cs := [.pointer (some ⟨a, 0, none⟩), .pointer (some ⟨r, 0, none⟩), v1, v2, v3, v4]) (u := .pointer (some ⟨a', 0, none⟩)) h
set_option maxRecDepth 100000 in
theorem infoTx : (Tryz.prog.info? 9).map (fun i => (i.zero, i.size, i.bytes)) = some (some (.string ⟨#[]⟩), 1, 16) := by kernel_rfl
set_option maxRecDepth 100000 in
/-- append of one cell, of one slice, of one text, as they run. -/
theorem run_c1 (w : World) (ty : TypeId) (B : Nat) (v : Value) (n : Nat) (xs us : List Value) (b : Nat) (h : w.ownsRow B 40 5 v n xs) (hl : us.length = 5) (hone : ∀ u ∈ us, u.oneCell' = true) (hc : ∀ j u, us[j]? = some u → w.cell? ⟨b, 0 + j, none⟩ = some u) (hn : n ≤ 4000000) (hB : B ≤ w.heap.size) :
    ∃ g c w', (Builtin.append_ #[32, 32] ty #[v, .slice (some ⟨b, 0, none⟩) 1 1]).run Tryz.prog w = .ok (.slice (some ⟨g, 0, none⟩) (n + 1) c) w' ∧ w'.ownsRow B 40 5 (.slice (some ⟨g, 0, none⟩) (n + 1) c) (n + 1) (xs ++ us) ∧ Gr w v w' (.slice (some ⟨g, 0, none⟩) (n + 1) c) := by
  obtain ⟨i0, hi, hz0, hz1, hz2⟩ := info_parts infoC
  obtain ⟨v', w', hr, h2, h3, h4, h5⟩ := run_append_own_at (P := Tryz.prog) w B 32 ty 40 i0 _ 5 72 Tryz.underlying32 hi hz0 hz1 hz2 rfl (by decide) v n xs h ⟨b, 0, none⟩ 1 1 us hl (fun j u hu => by rw [Addr.add_lit]; exact hc j u hu) hone (by unfold maxLen; omega) (by omega) hB
  rcases h2.2 with ⟨_, h0⟩ | ⟨g, c, cur, rfl, _⟩
  · omega
  · exact ⟨g, c, w', hr, h2, h3, h5.imp id fun e => ⟨_, e, Nat.le_refl _⟩⟩
set_option maxRecDepth 100000 in
theorem run_b1 (w : World) (ty : TypeId) (B : Nat) (v : Value) (n : Nat) (xs : List Value) (u : Value) (b : Nat) (h : w.ownsRow B 38 1 v n xs) (hone : u.oneCell' = true) (hc : w.cell? ⟨b, 0, none⟩ = some u) (hn : n ≤ 4000000) (hB : B ≤ w.heap.size) :
    ∃ g c w', (Builtin.append_ #[33, 33] ty #[v, .slice (some ⟨b, 0, none⟩) 1 1]).run Tryz.prog w = .ok (.slice (some ⟨g, 0, none⟩) (n + 1) c) w' ∧ w'.ownsRow B 38 1 (.slice (some ⟨g, 0, none⟩) (n + 1) c) (n + 1) (xs ++ [u]) ∧ Gr w v w' (.slice (some ⟨g, 0, none⟩) (n + 1) c) := by
  obtain ⟨i0, hi, hz0, hz1, hz2⟩ := info_parts infoSl9
  obtain ⟨v', w', hr, h2, h3, h4, h5⟩ := run_append_own_at (P := Tryz.prog) w B 33 ty 38 i0 (.slice none 0 0) 1 24 Tryz.underlying33 hi hz0 hz1 hz2 rfl (by decide) v n xs h ⟨b, 0, none⟩ 1 1 [u] rfl
    (fun j y hy => by
      have hj : j = 0 := by
        have := (List.getElem?_eq_some_iff.1 hy).1
        simpa using this
      subst hj
      simp at hy
      subst hy
      simpa [Addr.add_lit] using hc) (fun y hy => by simp at hy; subst hy; exact hone) (by unfold maxLen; omega) (by omega) hB
  rcases h2.2 with ⟨_, h0⟩ | ⟨g, c, cur, rfl, _⟩
  · omega
  · exact ⟨g, c, w', hr, h2, h3, h5.imp id fun e => ⟨_, e, Nat.le_refl _⟩⟩
set_option maxRecDepth 100000 in
theorem run_t1 (w : World) (ty : TypeId) (B : Nat) (v : Value) (n : Nat) (xs : List Value) (u : Value) (b : Nat) (h : w.ownsRow B 9 1 v n xs) (hone : u.oneCell' = true) (hc : w.cell? ⟨b, 0, none⟩ = some u) (hn : n ≤ 4000000) (hB : B ≤ w.heap.size) :
    ∃ g c w', (Builtin.append_ #[34, 34] ty #[v, .slice (some ⟨b, 0, none⟩) 1 1]).run Tryz.prog w = .ok (.slice (some ⟨g, 0, none⟩) (n + 1) c) w' ∧ w'.ownsRow B 9 1 (.slice (some ⟨g, 0, none⟩) (n + 1) c) (n + 1) (xs ++ [u]) ∧ Gr w v w' (.slice (some ⟨g, 0, none⟩) (n + 1) c) := by
  obtain ⟨i0, hi, hz0, hz1, hz2⟩ := info_parts infoTx
  obtain ⟨v', w', hr, h2, h3, h4, h5⟩ := run_append_own_at (P := Tryz.prog) w B 34 ty 9 i0 _ 1 16 Tryz.underlying34 hi hz0 hz1 hz2 rfl (by decide) v n xs h ⟨b, 0, none⟩ 1 1 [u] rfl
    (fun j y hy => by
      have hj : j = 0 := by
        have := (List.getElem?_eq_some_iff.1 hy).1
        simpa using this
      subst hj
      simp at hy
      subst hy
      simpa [Addr.add_lit] using hc) (fun y hy => by simp at hy; subst hy; exact hone) (by unfold maxLen; omega) (by omega) hB
  rcases h2.2 with ⟨_, h0⟩ | ⟨g, c, cur, rfl, _⟩
  · omega
  · exact ⟨g, c, w', hr, h2, h3, h5.imp id fun e => ⟨_, e, Nat.le_refl _⟩⟩
set_option maxRecDepth 100000 in
/-- append within a region that draws. -/
theorem step_app {ops : Array Oper} {o : Oper} {a : Act} {w : World} {K : Act → World → Prop} {Q : Exit → Act → World → Prop} {E : Prop}
    (hgd : o.guard = none) (s x : Operand) (t1 t2 : TypeId) (ho : o.op = .call { callee := .builtin .append, args := #[s, x], argTypes := #[t1, t2] }) (v u : Value) (hs : a.eval s = v) (hx : a.eval x = u) {v' : Value} {w' : World}
    (hr : (Builtin.append_ #[t1, t2] o.type #[v, u]).run Tryz.prog w = .ok v' w') (h : K (a.put o.dst v') w') :
    if Region.wanted o (yielded ops a.tmps) = true then Oper.wp Tryz.prog o a w K Q else E := by
  have hw : Region.wanted o (yielded ops a.tmps) = true := by simp [Region.wanted, hgd]
  rw [if_pos hw]
  unfold Oper.wp execOp
  simp only [ho, resolve, invoke, builtin, Sem.run_bind, Sem.run_pure, Result.andThen_ok, List.map_toArray, List.map_cons, List.map_nil, hs, hx, hr]
  exact h
/-- Where one of the pair's rows is grown, and laid into the pair. -/
def Gz (X : Nat) (v : Value) (z : Nat) : Prop := z = X ∨ v.ownBlock = some z
set_option maxRecDepth 100000 in
theorem St6.grow {w w2 : World} {B X a r : Nat} {k : Int} {n : Nat} {K M : Nat → Prop} {cp cd : List Cl} {L : Ls6} {vb vs vl v1 v2 v3 v4 : Value} {us ps : List Value} (h : St6 w B X a r k n K M cp cd L vb vs vl v1 v2 v3 v4 us ps) {e : TypeId} {s m : Nat} {v v' : Value} {xs : List Value} (hv : w.ownsRow B e s v m xs) (he : e = 40 ∨ e = 38 ∨ e = 9) (hg : Gr w v w2 v') (i : Nat) (y : Value) :
    Cf (Gz X v) w (w2.setCell ⟨X, i, none⟩ y) ∧ Below B w (w2.setCell ⟨X, i, none⟩ y) ∧ PX w2 X a r v1 v2 v3 v4 ∧ Po (w2.setCell ⟨X, i, none⟩ y) B a k n vb vs cp ∧ (Ap2 v vl → Dp (w2.setCell ⟨X, i, none⟩ y) B K r k n vl cd) ∧ (∀ J, Kt8 w J (Gz X v)) ∧
      (∀ {e' : TypeId} {s' m' : Nat} {u : Value} {zs : List Value}, w.ownsRow B e' s' u m' zs → e' ≠ 36 → (e' ≠ e ∨ Ap2 v u) → ∀ z, u.ownBlock = some z → ¬ Gz X v z) ∧
      (∀ {e' : TypeId} {s' m' : Nat} {u : Value} {zs : List Value}, w2.ownsRow B e' s' u m' zs → e' ≠ 36 → (w2.setCell ⟨X, i, none⟩ y).ownsRow B e' s' u m' zs) := by
  have hX := h.px
  unfold PX at hX
  have hne : e ≠ 36 ∧ e ≠ 5 ∧ e ≠ 3 ∧ e ≠ 56 ∧ e ≠ 58 := by rcases he with rfl | rfl | rfl <;> decide
  have hnX : ¬ v.ownBlock = some X := fun e1 => by
    obtain ⟨cur, fz, hh⟩ := row_ty hv e1
    rw [hX] at hh
    injection hh with hh
    injection hh with _ e2 _
    exact hne.1 e2.symm
  have hty : ∀ {z : Nat} {cur : Array Value} {t : TypeId} {fz : Nat × Nat}, w.heap[z]? = some (.cells cur t fz) → t ≠ 36 → t ≠ e → ¬ Gz X v z := by
    intro z cur t fz hh h1 h2 hz
    rcases hz with rfl | hz
    · rw [hX] at hh
      injection hh with hh
      injection hh with _ e2 _
      exact h1 e2.symm
    · obtain ⟨cur', fz', hh'⟩ := row_ty hv hz
      rw [hh] at hh'
      injection hh' with hh'
      injection hh' with _ e2 _
      exact h2 e2
  have hc1 : Cf (Gz X v) w w2 := hg.cf.wide fun z hz => .inr hz
  have hc2 : Cf (Gz X v) w2 (w2.setCell ⟨X, i, none⟩ y) := (Cf.set w2 X i y).wide fun z hz => .inl hz
  have hc := hc1.go hc2
  have hpx : PX w2 X a r v1 v2 v3 v4 := (hg.cf.block X (lt_some h.px) hnX).trans h.px
  have hrow : ∀ {e' : TypeId} {s' m' : Nat} {u : Value} {zs : List Value}, w.ownsRow B e' s' u m' zs → e' ≠ 36 → (e' ≠ e ∨ Ap2 v u) → ∀ z, u.ownBlock = some z → ¬ Gz X v z := by
    intro e' s' m' u zs hr h1 h2 z hz hG
    obtain ⟨cur, fz, hh⟩ := row_ty hr hz
    rcases h2 with h2 | h2
    · exact hty hh h1 h2 hG
    · rcases hG with rfl | hG
      · rw [hX] at hh
        injection hh with hh
        injection hh with _ e2 _
        exact h1 e2.symm
      · exact h2 z hG hz
  have hK8 : ∀ J, Kt8 w J (Gz X v) := fun J z cur fz _ hh => hty hh (by decide) (Ne.symm hne.2.1)
  refine ⟨hc, ?_, hpx, ⟨?_, ?_, ?_⟩, ?_, hK8, hrow, ?_⟩
  · refine ⟨hc.os, hc.tape, hc.output, hc.size, fun q hq => hc.block q (by have := h.size; omega) ?_⟩
    rintro (rfl | hz)
    · have := h.lo.1
      omega
    · have := (World.ownsRow.lt hv q hz).1
      omega
  · exact h.po.row.cf hc (hty h.po.row (by decide) (Ne.symm hne.2.2.2.1))
  · exact row_cf h.po.body hc (hrow h.po.body (by decide) (.inl (Ne.symm hne.2.1)))
  · exact row_cf h.po.starts hc (hrow h.po.starts (by decide) (.inl (Ne.symm hne.2.2.1)))
  · intro hap
    obtain ⟨ls, hl1, hl2, hl3⟩ := h.dp.cells
    exact ⟨h.dp.row.cf hc (hty h.dp.row (by decide) (Ne.symm hne.2.2.2.2)), h.dp.cells.cfT hc (hrow hl1 (by decide) (.inr hap)) (hK8 K)⟩
  · intro e' s' m' u zs hr h1
    refine row_cf hr (Cf.set w2 X i y) fun z hz ez => ?_
    have e1 : z = X := ez
    subst e1
    obtain ⟨cur, fz, hh⟩ := row_ty hr hz
    unfold PX at hpx
    rw [hpx] at hh
    injection hh with hh
    injection hh with _ e2 _
    exact h1 e2.symm
set_option maxRecDepth 100000 in
/-- Where a grown row lies. -/
theorem Gr.ap {w w2 : World} {v v' u : Value} (hg : Gr w v w2 v') (h : Ap2 v u) (hu : ∀ z, u.ownBlock = some z → z < w.heap.size) : Ap2 v' u := fun z hz hz' => by
  rcases hg.own with e | ⟨q, e, hq⟩
  · exact h z (e ▸ hz) hz'
  · rw [e] at hz
    cases hz
    have := hu z hz'
    omega
set_option maxRecDepth 100000 in
/-- WHAT CAME: one cell more. -/
theorem St6.came {w w2 : World} {B X a r : Nat} {k : Int} {n : Nat} {K M : Nat → Prop} {cp cd : List Cl} {L : Ls6} {vb vs vl v1 v2 v3 v4 v' : Value} {us ps ys : List Value} {c : Cl} (h : St6 w B X a r k n K M cp cd L vb vs vl v1 v2 v3 v4 us ps) (hg : Gr w v1 w2 v') (hr : w2.ownsRow B 40 5 v' (L.ces.length + 1) (us ++ ys)) (hy : R5B w B ys [c]) (hc : c.Wf ∧ c.key.length ≤ 65536 ∧ c.val.length ≤ 65536) (hf : ∀ y ∈ ys, ∀ z, y.ownBlock = some z → Fre w B K M vb z) (hd : ys.Pairwise Ap2) :
    ∃ M', St6 (w2.setCell ⟨X, 2, none⟩ v') B X a r k n K M' cp cd ⟨L.ces ++ [c], L.wes, L.pcs, L.hcs⟩ vb vs vl v' v2 v3 v4 (us ++ ys) ps ∧ (∀ g, Fre w B K M vb g → (∀ y ∈ ys, ¬ y.ownBlock = some g) → Fre (w2.setCell ⟨X, 2, none⟩ v') B K M' vb g) ∧ Below B w (w2.setCell ⟨X, 2, none⟩ v') := by
  obtain ⟨hcf, hbl, hpx, hpo, hdp, hK8, hrow, hrow2⟩ := h.grow h.cm.cm (.inl rfl) hg 2 v'
  obtain ⟨ws, hw1, hw2, hw3⟩ := h.cm.wt
  obtain ⟨ls, hl1, hl2, hl3⟩ := h.dp.cells
  have hMy : ∀ z, M z → ∀ y ∈ ys, ¬ y.ownBlock = some z := fun z hz y hy e => (hf y hy z e).2.2.2.1 hz
  have hap : ∀ p, (∀ z, p.ownBlock = some z → M z) → ∀ y ∈ ys, Ap2 p y := fun p hp y hy z hz e => hMy z (hp z hz) y hy e
  have hKV : ∀ {ts : List Value}, KV M ts → KV (fun z => M z ∨ ∃ y ∈ ys, y.ownBlock = some z) ts := fun h1 u hu z hz => .inl (h1 u hu z hz)
  refine ⟨fun z => M z ∨ ∃ y ∈ ys, y.ownBlock = some z, ⟨(hpx.set v').1, hpo, hdp h.r1, ⟨?_, ?_, h.cm.wt.cfT hcf (hrow hw1 (by decide) (.inr h.r3)) (hK8 K), row_cf h.cm.pc hcf (hrow h.cm.pc (by decide) (.inl (by decide))), fun t u l hu hl => (h.cm.pb t u l hu hl).cfT hcf (h.cm.mp u (List.mem_of_getElem? hu)) (hK8 M), row_cf h.cm.hs hcf (hrow h.cm.hs (by decide) (.inl (by decide))), ?_, h.cm.pok, ?_, ?_, hKV h.cm.mp⟩, ?_, fun z hz => Nat.lt_of_lt_of_le (h.kb z hz) hcf.size, ?_, hg.ap h.r1 (fun z hz => (World.ownsRow.lt hl1 z hz).2), h.r2, hg.ap h.r3 (fun z hz => (World.ownsRow.lt hw1 z hz).2), h.lo⟩, ?_, hbl⟩
  · rw [List.length_append]
    exact hrow2 hr (by decide)
  · refine R5B.append (hy.cfT (K := fun z => ∃ y ∈ ys, y.ownBlock = some z) (fun u hu z hz => ⟨u, hu, hz⟩) hcf (hK8 _)) (h.cm.cb.cfT h.cm.mu hcf (hK8 M))
  · intro d hd
    simp only [List.mem_append, List.mem_singleton] at hd
    rcases hd with hd | rfl
    · exact h.cm.cok d hd
    · exact hc
  · have h0 := List.pairwise_append.1 h.cm.dif
    refine List.pairwise_append.2 ⟨List.pairwise_append.2 ⟨h0.1, hd, fun p hp y hy => hap p (h.cm.mu p hp) y hy⟩, h0.2.1, fun p hp q hq => ?_⟩
    simp only [List.mem_append] at hp
    rcases hp with hp | hp
    · exact h0.2.2 p hp q hq
    · exact (hap q (h.cm.mp q hq) p hp).symm
  · exact KV.app (hKV h.cm.mu) fun u hu z hz => .inr ⟨u, hu, hz⟩
  · rintro z (hz | ⟨y, hy, hz⟩)
    · exact ⟨(h.mz z hz).1, Nat.lt_of_lt_of_le (h.mz z hz).2 hcf.size⟩
    · have := hf y hy z hz
      exact ⟨this.2.2.1, Nat.lt_of_lt_of_le this.2.1 hcf.size⟩
  · intro z hz
    refine ⟨(h.bb z hz).1, ?_⟩
    rintro (hm | ⟨y, hy, e⟩)
    · exact (h.bb z hz).2 hm
    · exact (hf y hy z e).2.2.2.2 hz
  · rintro g ⟨g0, g1, g2, g3, g4⟩ hgy
    refine ⟨g0, Nat.lt_of_lt_of_le g1 hcf.size, g2, ?_, g4⟩
    rintro (hm | ⟨y, hy, e⟩)
    · exact g3 hm
    · exact hgy y hy e
set_option maxRecDepth 100000 in
/-- WHAT SHOULD HAVE COME: one cell more. -/
theorem St6.want {w w2 : World} {B X a r : Nat} {k : Int} {n : Nat} {K M : Nat → Prop} {cp cd : List Cl} {L : Ls6} {vb vs vl v1 v2 v3 v4 v' : Value} {us ps ys ws : List Value} {c : Cl} (h : St6 w B X a r k n K M cp cd L vb vs vl v1 v2 v3 v4 us ps) (hw1 : w.ownsRow B 40 5 v2 L.wes.length ws) (hw2 : R5B w B ws L.wes) (hw3 : KV K ws) (hg : Gr w v2 w2 v') (hr : w2.ownsRow B 40 5 v' (L.wes.length + 1) (ws ++ ys)) (hy : R5B w B ys [c]) (hf : ∀ y ∈ ys, ∀ z, y.ownBlock = some z → Fre w B K M vb z) :
    ∃ K', St6 (w2.setCell ⟨X, 3, none⟩ v') B X a r k n K' M cp cd ⟨L.ces, L.wes ++ [c], L.pcs, L.hcs⟩ vb vs vl v1 v' v3 v4 us ps ∧ Below B w (w2.setCell ⟨X, 3, none⟩ v') := by
  obtain ⟨hcf, hbl, hpx, hpo, hdp, hK8, hrow, hrow2⟩ := h.grow hw1 (.inl rfl) hg 3 v'
  obtain ⟨ls, hl1, hl2, hl3⟩ := h.dp.cells
  have hKV : ∀ {ts : List Value}, KV K ts → KV (fun z => K z ∨ ∃ y ∈ ys, y.ownBlock = some z) ts := fun h1 u hu z hz => .inl (h1 u hu z hz)
  refine ⟨fun z => K z ∨ ∃ y ∈ ys, y.ownBlock = some z, ⟨(hpx.set v').2.1, hpo, (hdp h.r2).wide fun z hz => .inl hz, ⟨row_cf h.cm.cm hcf (hrow h.cm.cm (by decide) (.inr h.r3.symm)), h.cm.cb.cfT h.cm.mu hcf (hK8 M), ⟨ws ++ ys, ?_, ?_, ?_⟩, row_cf h.cm.pc hcf (hrow h.cm.pc (by decide) (.inl (by decide))), fun t u l hu hl => (h.cm.pb t u l hu hl).cfT hcf (h.cm.mp u (List.mem_of_getElem? hu)) (hK8 M), row_cf h.cm.hs hcf (hrow h.cm.hs (by decide) (.inl (by decide))), h.cm.cok, h.cm.pok, h.cm.dif, h.cm.mu, h.cm.mp⟩, ?_, ?_, ?_, h.r1, hg.ap h.r2 (fun z hz => (World.ownsRow.lt hl1 z hz).2), (hg.ap h.r3.symm (fun z hz => (World.ownsRow.lt h.cm.cm z hz).2)).symm, h.lo⟩, hbl⟩
  · rw [List.length_append]
    exact hrow2 hr (by decide)
  · refine R5B.append (hy.cfT (K := fun z => ∃ y ∈ ys, y.ownBlock = some z) (fun u hu z hz => ⟨u, hu, hz⟩) hcf (hK8 _)) (hw2.cfT hw3 hcf (hK8 K))
  · exact KV.app (hKV hw3) fun u hu z hz => .inr ⟨u, hu, hz⟩
  · intro z hz
    refine ⟨?_, Nat.lt_of_lt_of_le (h.mz z hz).2 hcf.size⟩
    rintro (hk | ⟨y, hy, e⟩)
    · exact (h.mz z hz).1 hk
    · exact (hf y hy z e).2.2.2.1 hz
  · rintro z (hz | ⟨y, hy, hz⟩)
    · exact Nat.lt_of_lt_of_le (h.kb z hz) hcf.size
    · exact Nat.lt_of_lt_of_le (hf y hy z hz).2.1 hcf.size
  · intro z hz
    refine ⟨?_, (h.bb z hz).2⟩
    rintro (hk | ⟨y, hy, e⟩)
    · exact (h.bb z hz).1 hk
    · exact (hf y hy z e).2.2.2.2 hz
set_option maxRecDepth 100000 in
/-- A PICTURE MORE. -/
theorem St6.pic {w w2 : World} {B X a r : Nat} {k : Int} {n : Nat} {K M : Nat → Prop} {cp cd : List Cl} {L : Ls6} {vb vs vl v1 v2 v3 v4 v' y : Value} {us ps : List Value} {l : List Int} (h : St6 w B X a r k n K M cp cd L vb vs vl v1 v2 v3 v4 us ps) (hg : Gr w v3 w2 v') (hr : w2.ownsRow B 38 1 v' (L.pcs.length + 1) (ps ++ [y])) (hy : OwnB w B y l) (hc : Wf l ∧ l.length ≤ 65536) (hf : ∀ z, y.ownBlock = some z → Fre w B K M vb z) :
    ∃ M', St6 (w2.setCell ⟨X, 4, none⟩ v') B X a r k n K M' cp cd ⟨L.ces, L.wes, L.pcs ++ [l], L.hcs⟩ vb vs vl v1 v2 v' v4 us (ps ++ [y]) ∧ Below B w (w2.setCell ⟨X, 4, none⟩ v') ∧ OwnB (w2.setCell ⟨X, 4, none⟩ v') B y l := by
  obtain ⟨hcf, hbl, hpx, hpo, hdp, hK8, hrow, hrow2⟩ := h.grow h.cm.pc (.inr (.inl rfl)) hg 4 v'
  obtain ⟨ws, hw1, hw2, hw3⟩ := h.cm.wt
  obtain ⟨ls, hl1, hl2, hl3⟩ := h.dp.cells
  have hap : ∀ p, (∀ z, p.ownBlock = some z → M z) → Ap2 p y := fun p hp z hz e => (hf z e).2.2.2.1 (hp z hz)
  have hKV : ∀ {ts : List Value}, KV M ts → KV (fun z => M z ∨ y.ownBlock = some z) ts := fun h1 u hu z hz => .inl (h1 u hu z hz)
  have hlen : ps.length = L.pcs.length := by
    have := h.cm.pc.1
    simpa using this
  have hv3l : Ap2 v3 vl := fun z hz hz' => by
    obtain ⟨c1, f1, e1⟩ := row_ty h.cm.pc hz
    obtain ⟨c2, f2, e2⟩ := row_ty hl1 hz'
    rw [e1] at e2
    injection e2 with e2
    injection e2 with _ e3 _
    exact absurd e3 (by decide)
  have hyo : OwnB (w2.setCell ⟨X, 4, none⟩ v') B y l := hy.cfT (K := fun _ => True) hcf (fun _ _ => trivial) (hK8 _)
  refine ⟨fun z => M z ∨ y.ownBlock = some z, ⟨(hpx.set v').2.2.1, hpo, hdp hv3l, ⟨row_cf h.cm.cm hcf (hrow h.cm.cm (by decide) (.inl (by decide))), h.cm.cb.cfT h.cm.mu hcf (hK8 M), h.cm.wt.cfT hcf (hrow hw1 (by decide) (.inl (by decide))) (hK8 K), ?_, ?_, row_cf h.cm.hs hcf (hrow h.cm.hs (by decide) (.inl (by decide))), h.cm.cok, ?_, ?_, hKV h.cm.mu, ?_⟩, ?_, fun z hz => Nat.lt_of_lt_of_le (h.kb z hz) hcf.size, ?_, h.r1, h.r2, h.r3, h.lo⟩, hbl, hyo⟩
  · rw [List.length_append]
    exact hrow2 hr (by decide)
  · intro t u m hu hm
    by_cases ht : t < ps.length
    · rw [List.getElem?_append_left ht] at hu
      rw [List.getElem?_append_left (by omega)] at hm
      exact (h.cm.pb t u m hu hm).cfT hcf (h.cm.mp u (List.mem_of_getElem? hu)) (hK8 M)
    · have ht2 := (List.getElem?_eq_some_iff.1 hu).1
      simp at ht2
      obtain rfl : t = ps.length := by omega
      rw [List.getElem?_append_right (Nat.le_refl _)] at hu
      rw [hlen, List.getElem?_append_right (Nat.le_refl _)] at hm
      simp at hu hm
      subst hu hm
      exact hyo
  · intro m hm
    simp only [List.mem_append, List.mem_singleton] at hm
    rcases hm with hm | rfl
    · exact h.cm.pok m hm
    · exact hc
  · have h0 := List.pairwise_append.1 h.cm.dif
    rw [← List.append_assoc]
    refine List.pairwise_append.2 ⟨h.cm.dif, List.pairwise_singleton _ _, fun p hp q hq => ?_⟩
    simp only [List.mem_singleton] at hq
    subst hq
    simp only [List.mem_append] at hp
    rcases hp with hp | hp
    · exact hap p (h.cm.mu p hp)
    · exact hap p (h.cm.mp p hp)
  · exact KV.app (hKV h.cm.mp) fun u hu z hz => by
      simp only [List.mem_singleton] at hu
      subst hu
      exact .inr hz
  · rintro z (hz | hz)
    · exact ⟨(h.mz z hz).1, Nat.lt_of_lt_of_le (h.mz z hz).2 hcf.size⟩
    · have := hf z hz
      exact ⟨this.2.2.1, Nat.lt_of_lt_of_le this.2.1 hcf.size⟩
  · intro z hz
    refine ⟨(h.bb z hz).1, ?_⟩
    rintro (hm | e)
    · exact (h.bb z hz).2 hm
    · exact (hf z e).2.2.2.2 hz
set_option maxRecDepth 100000 in
/-- ITS TEXT. -/
theorem St6.has {w w2 : World} {B X a r : Nat} {k : Int} {n : Nat} {K M : Nat → Prop} {cp cd : List Cl} {L : Ls6} {vb vs vl v1 v2 v3 v4 v' : Value} {us ps : List Value} {l : List Int} (h : St6 w B X a r k n K M cp cd L vb vs vl v1 v2 v3 v4 us ps) (hg : Gr w v4 w2 v') (hr : w2.ownsRow B 9 1 v' (L.hcs.length + 1) ((L.hcs.map fun l => .string (strOfNums l)) ++ [.string (strOfNums l)])) :
    St6 (w2.setCell ⟨X, 5, none⟩ v') B X a r k n K M cp cd ⟨L.ces, L.wes, L.pcs, L.hcs ++ [l]⟩ vb vs vl v1 v2 v3 v' us ps ∧ Below B w (w2.setCell ⟨X, 5, none⟩ v') ∧ ∀ C u m, OwnB w C u m → OwnB (w2.setCell ⟨X, 5, none⟩ v') C u m := by
  obtain ⟨hcf, hbl, hpx, hpo, hdp, hK8, hrow, hrow2⟩ := h.grow h.cm.hs (.inr (.inr rfl)) hg 5 v'
  obtain ⟨ws, hw1, hw2, hw3⟩ := h.cm.wt
  obtain ⟨ls, hl1, hl2, hl3⟩ := h.dp.cells
  have hv4l : Ap2 v4 vl := fun z hz hz' => by
    obtain ⟨c1, f1, e1⟩ := row_ty h.cm.hs hz
    obtain ⟨c2, f2, e2⟩ := row_ty hl1 hz'
    rw [e1] at e2
    injection e2 with e2
    injection e2 with _ e3 _
    exact absurd e3 (by decide)
  refine ⟨⟨(hpx.set v').2.2.2, hpo, hdp hv4l, ⟨row_cf h.cm.cm hcf (hrow h.cm.cm (by decide) (.inl (by decide))), h.cm.cb.cfT h.cm.mu hcf (hK8 M), h.cm.wt.cfT hcf (hrow hw1 (by decide) (.inl (by decide))) (hK8 K), row_cf h.cm.pc hcf (hrow h.cm.pc (by decide) (.inl (by decide))), fun t u l hu hl => (h.cm.pb t u l hu hl).cfT hcf (h.cm.mp u (List.mem_of_getElem? hu)) (hK8 M), ?_, h.cm.cok, h.cm.pok, h.cm.dif, h.cm.mu, h.cm.mp⟩, fun z hz => ⟨(h.mz z hz).1, Nat.lt_of_lt_of_le (h.mz z hz).2 hcf.size⟩, fun z hz => Nat.lt_of_lt_of_le (h.kb z hz) hcf.size, h.bb, h.r1, h.r2, h.r3, h.lo⟩, hbl, fun C u m ho => ho.cfT (K := fun _ => True) hcf (fun _ _ => trivial) (hK8 _)⟩
  rw [List.length_append, List.map_append]
  exact hrow2 hr (by decide)
end Go.Proofs.YtphjnahmbdinmaaGreatDoor

/- Layer 6: the law's bytes. -/

namespace Go.Proofs.YtphjnahmbdinmaaGreatDoor
open Go.RowKit

set_option maxRecDepth 100000 in
set_option maxHeartbeats 4000000 in
theorem bytes6_go (w : World) (B X r : Nat) (k : Int) (n : Nat) (L : Ls6) (h : StE w B X r k n L) (ht : Tab w) (h0 : 1 < w.heap.size) (hL : L.pcs.length ≤ 4000000) (hL2 : L.hcs.length ≤ 4000000) :
    Calls Tryz.prog 13 #[.pointer (some ⟨X, 0, none⟩)] w fun e w' => e = .returned (.bool true) ∧ Hid (∃ l, StE w' B X r k n ⟨L.ces, L.wes, L.pcs ++ [l], L.hcs ++ [l]⟩) ∧ Hid (Below B w w') := by
  obtain ⟨cs, a, K, M, vb, vs, vl, v1, v2, v3, v4, us, ps, g, hs⟩ := h
  have hBw := hs.size
  have H1 := hidden (bytesO_any w B a k n vb vs cs hs.po g ht h0)
  have HR : Hid (∀ u, Below w.heap.size w u → Calls Tryz.prog 36 #[.pointer (some ⟨r, 0, none⟩)] u fun e w' => ∃ ao m cap, e = .returned (.slice ao m cap) ∧ Hid (OwnB w' u.heap.size (.slice ao m cap) (en6 k n cs)) ∧ Hid (Below u.heap.size u w')) := hidden fun u hu => rbytes_any u B K r k n vl cs (hs.dp.on hu) g.rooms (by have := g.len; omega) (by have := g.size; have := (pw_nat g.sz).2; omega)
  obtain ⟨l, hl⟩ : ∃ l, en6 k n cs = l := ⟨_, rfl⟩
  have hlw : Wf l ∧ l.length ≤ 65536 := by rw [← hl]; exact ⟨en6_wf g.wf, en6_len⟩
  rw [hl] at H1 HR
  have HS := hidden hs
  have HG := hidden g
  have HLW := hidden hlw
  have HBW := hidden hBw
  have HL1 := hidden hL
  have HL2 := hidden hL2
  obtain ⟨x0, x1, x2, x3, x4, x5⟩ := hs.px.cells
  clear hs g hlw hBw hl ht h0 hL hL2
  go_enter Tryz.func13, Tryz.ntmps13
  go_wp2_with (first | (go_at_call 33; refine H1.out.mono ?_; rintro e u1 ⟨ao, m, c, rfl, HO1, HU1⟩; refine Hid.out ?_))
  apply hidden
  have HR1 := hidden (HR.out u1 HU1.out)
  clear x0 x1 x2 x3 x4 x5
  obtain ⟨x0, x1, x2, x3, x4, x5⟩ := (HS.out.on HU1.out).px.cells
  go_wp2_with (first | (go_at_call 36; refine HR1.out.mono ?_; rintro e u2 ⟨bo, m2, c2, rfl, HO2, HU2⟩; refine Hid.out ?_))
  apply hidden
  have hw2 : Below w.heap.size w u2 := bl_go HU1.out (Nat.le_refl _) HU2.out
  have hs2 := HS.out.on hw2
  have ho1 : OwnB u2 w.heap.size (.slice ao m c) l := HO1.out.on (Nat.le_refl _) HU2.out
  have ho2 : OwnB u2 w.heap.size (.slice bo m2 c2) l := HO2.out.low HU1.out.size
  obtain ⟨s2, hsz⟩ : ∃ s2, u2.heap.size = s2 := ⟨_, rfl⟩
  obtain ⟨u3, hu3⟩ : ∃ u3, u2.alloc (.cells #[.slice ao m c] 38) = u3 := ⟨_, rfl⟩
  have hb3 : Below u2.heap.size u2 u3 := by rw [← hu3]; exact bl_al (Below.refl _ _) (Nat.le_refl _) _
  have hs3 := hs2.on hb3
  have hc3 : u3.cell? ⟨s2, 0, none⟩ = some (.slice ao m c) := by rw [← hu3, ← hsz]; simp
  have hw3 : Below w.heap.size w u3 := bl_go hw2 (Nat.le_refl _) hb3
  obtain ⟨g4, c4, u4, hr4, hrow4, hgr4⟩ := run_b1 u3 33 B v3 L.pcs.length ps (.slice ao m c) s2 hs3.cm.pc rfl hc3 HL1.out hs3.size
  have hfr : ∀ {v : Value} {u : World}, OwnB u w.heap.size v l → u.heap.size ≤ u3.heap.size → ∀ z, v.ownBlock = some z → Fre u3 B K M vb z := fun ho hu z hz => HS.out.new HBW.out (World.ownsRow.lt ho z hz).1 (Nat.lt_of_lt_of_le (World.ownsRow.lt ho z hz).2 hu)
  obtain ⟨M', st5, hbl5, hoy⟩ := hs3.pic hgr4 hrow4 ((ho1.on (Nat.le_refl _) hb3).low HBW.out) HLW.out (hfr ho1 hb3.size)
  have ho2' : OwnB (u4.setCell ⟨X, 4, none⟩ (.slice (some ⟨g4, 0, none⟩) (L.pcs.length + 1) c4)) B (.slice bo m2 c2) l := by
    obtain ⟨hcf, _, _, _, _, hK8, _, _⟩ := hs3.grow hs3.cm.pc (.inr (.inl rfl)) hgr4 4 (.slice (some ⟨g4, 0, none⟩) (L.pcs.length + 1) c4)
    exact OwnB.cfT (K := fun _ => True) ((ho2.on (Nat.le_refl _) hb3).low HBW.out) hcf (fun _ _ => trivial) (hK8 _)
  have hpx4 := (hs3.grow hs3.cm.pc (.inr (.inl rfl)) hgr4 4 (.slice (some ⟨g4, 0, none⟩) (L.pcs.length + 1) c4)).2.2.1
  obtain ⟨y0, y1, y2, y3, y4, y5⟩ := hpx4.cells
  have f4 := hpx4.free 4
  clear x0 x1 x2 x3 x4 x5
  obtain ⟨x0, x1, x2, x3, x4, x5⟩ := hs2.px.cells
  obtain ⟨z0, z1, z2, z3, z4, z5⟩ := hs3.px.cells
  have hBl5 : Below B w (u4.setCell ⟨X, 4, none⟩ (.slice (some ⟨g4, 0, none⟩) (L.pcs.length + 1) c4)) := (bl_low hw3 HBW.out).trans hbl5
  have ST5 := hidden st5
  have HOY := hidden hoy
  have HO2' := hidden ho2'
  have HBL5 := hidden hBl5
  have hpl := HL1.out
  obtain ⟨N1, hN1⟩ : ∃ N1, L.pcs.length + 1 = N1 := ⟨_, rfl⟩
  rw [hN1] at hr4 ST5 HOY HO2' HBL5
  clear hw2 hs2 ho1 ho2 hb3 hs3 hc3 hw3 hrow4 hgr4 hfr st5 hbl5 hoy ho2' hpx4 hBl5 HO1 HO2 HU1 HU2 HR1 H1 HR hpl hN1
  go_wp2_with (at_builtin; refine append_wp rfl _ _ _ _ rfl _ _ rfl rfl hr4 ?_; refine Hid.out ?_)
  apply hidden
  clear hr4 hu3 hsz x0 x1 x2 x3 x4 x5 z0 z1 z2 z3 z4 z5
  obtain ⟨u5, hu5⟩ : ∃ u5, u4.setCell ⟨X, 4, none⟩ (.slice (some ⟨g4, 0, none⟩) N1 c4) = u5 := ⟨_, rfl⟩
  rw [hu5] at ST5 HOY HO2' HBL5
  go_wp2_with fail
  clear y0 y1 y2 y3 y4 y5 f4 hu5
  obtain ⟨x0, x1, x2, x3, x4, x5⟩ := ST5.out.px.cells
  obtain ⟨S, hS⟩ : ∃ S, strOfNums l = S := ⟨_, rfl⟩
  have kb : (convert 38 9 (.slice bo m2 c2)).run Tryz.prog u5.drew = .ok (.string S) u5.drew := by rw [← hS]; exact conv_sl ((HO2'.out.on (Nat.le_refl _) (show Below u5.heap.size u5 u5.drew from (Below.refl _ _).drew)).sl2 HLW.out.1 (by have := HLW.out.2; omega))
  obtain ⟨s5, hs5⟩ : ∃ s5, u5.heap.size = s5 := ⟨_, rfl⟩
  have hxn2 : ¬ X = s5 := by have := lt_some ST5.out.px; omega
  obtain ⟨o5, ho5⟩ : ∃ o5 : Obj, Obj.cells #[.string S] 9 (0, 0) = o5 := ⟨_, rfl⟩
  have hb6 : Below u5.heap.size u5 (u5.alloc o5).drew := ((Below.refl _ _).alloc (Nat.le_refl _) _).drew
  have st6 := ST5.out.on hb6
  have q5 := (ST5.out.on (show Below u5.heap.size u5 (u5.alloc o5) from (Below.refl _ _).alloc (Nat.le_refl _) _)).px.cells.2.2.2.2.2
  have q6 := st6.px.cells.2.2.2.2.2
  have hc6 : (u5.alloc o5).drew.cell? ⟨s5, 0, none⟩ = some (.string S) := by rw [← ho5, ← hs5]; simp
  obtain ⟨g7, c7, u7, hr7, hrow7, hgr7⟩ := run_t1 (u5.alloc o5).drew 34 B v4 L.hcs.length _ (.string S) s5 st6.cm.hs rfl hc6 HL2.out st6.size
  rw [← hS] at hrow7
  obtain ⟨st8, hbl8, hkp8⟩ := st6.has hgr7 hrow7
  have hpx7 := (st6.grow st6.cm.hs (.inr (.inr rfl)) hgr7 5 (.slice (some ⟨g7, 0, none⟩) (L.hcs.length + 1) c7)).2.2.1
  obtain ⟨y0, y1, y2, y3, y4, y5⟩ := hpx7.cells
  have f5 := hpx7.free 5
  have hp8 := hkp8 B _ _ (HOY.out.on (Nat.le_refl _) hb6)
  have hq8 := hkp8 B _ _ (HO2'.out.on (Nat.le_refl _) hb6)
  have hB8 := HBL5.out.trans ((bl_low hb6 ST5.out.size).trans hbl8)
  obtain ⟨N2, hN2⟩ : ∃ N2, L.hcs.length + 1 = N2 := ⟨_, rfl⟩
  rw [hN2] at hr7 st8 hp8 hq8 hB8
  have ST8 := hidden st8
  have HP8 := hidden hp8
  have HQ8 := hidden hq8
  have HB8 := hidden hB8
  have HR7 := hidden hr7
  have HS' := hidden hS
  clear hb6 st6 hc6 hrow7 hgr7 st8 hbl8 hkp8 hpx7 hp8 hq8 hB8 hr7 hS hN2 HBL5 HOY HO2' ST5
  go_region_law (refine step_app rfl (.tmp 29) (.tmp 32) _ _ rfl _ _ rfl rfl HR7.out ?_)
  all_goals
    obtain ⟨u8, hu8⟩ : ∃ u8, u7.setCell ⟨X, 5, none⟩ (.slice (some ⟨g7, 0, none⟩) N2 c7) = u8 := ⟨_, rfl⟩
    rw [hu8] at ST8 HP8 HQ8 HB8
    have k1 : (convert 38 9 (.slice ao m c)).run Tryz.prog u8 = .ok (.string S) u8 := by rw [← HS'.out]; exact conv_sl (HP8.out.sl2 HLW.out.1 (by have := HLW.out.2; omega))
    have k2 : (convert 38 9 (.slice bo m2 c2)).run Tryz.prog u8 = .ok (.string S) u8 := by rw [← HS'.out]; exact conv_sl (HQ8.out.sl2 HLW.out.1 (by have := HLW.out.2; omega))
    have eS : (S.toList == S.toList) = true := by simp
    clear HP8 HQ8 HR7
    go_wp2
    go_ret
    exact ⟨rfl, hidden ⟨l, cs, a, K, M', vb, vs, vl, v1, v2, _, _, us, _, HG.out, ST8.out⟩, HB8⟩
end Go.Proofs.YtphjnahmbdinmaaGreatDoor
