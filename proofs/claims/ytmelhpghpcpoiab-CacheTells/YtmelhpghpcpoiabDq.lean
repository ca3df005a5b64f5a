/- Plain mathematics of CacheTells: each call. -/
import Derived.Test.YtmelhpghpcpoiabDp
namespace Go.Proofs.Ytmelhpghpcpoiab
open Go.RowKit Go.Maps

set_option maxRecDepth 100000 in
theorem perm_snoc {A B : List Fr} {f : Fr} {pre : List Fr} {g : Fr} (h : pre ++ [g] = A ++ B ++ [f]) : (pre ++ [g]).Perm (A ++ f :: B) := h ▸ perm_used A B f
set_option maxRecDepth 100000 in
/-- A page that was not held is held. -/
theorem Tl.add {fr : Int} {d : D} {fs : List Fr} {iv pv : List Int} {h mi ev : Int} {t s : Nat} (T : Tl fr d fs iv pv h mi ev t s) (hlt : (fs.length : Int) < fr) {N : Nat} (hN : N < 8) (hno : ∀ f ∈ fs, f.n ≠ N) (g b : Nat) (l : List Int) (hl : l = pgI iv N) : Tl fr d (fs ++ [⟨N, g, false, 0, b, l⟩]) iv pv h mi ev t s := by
  have mem : ∀ x ∈ fs ++ [⟨N, g, false, 0, b, l⟩], x ∈ fs ∨ x = ⟨N, g, false, 0, b, l⟩ := fun x hx => by
    rcases List.mem_append.1 hx with h | h
    · exact .inl h
    · exact .inr (by simpa using h)
  obtain ⟨n1, n2⟩ := T.no N hN hno
  have hdc : dc (fs ++ [⟨N, g, false, 0, b, l⟩]) = dc fs := by rw [dc_snoc]; simp
  refine { T with fn := fun x hx => ?_, fp := fun x hx => ?_, fl := fun x hx => ?_, cn := fun x hx hdt => ?_, no := fun n hn hx => T.no n hn fun f hf => hx f (by simp [hf]), le := by rw [List.length_append]; simp; omega, np := ?_, cw := by rw [hdc]; exact T.cw, lo := by rw [hdc]; exact T.lo }
  · rcases mem x hx with h | rfl
    · exact T.fn x h
    · exact hN
  · rcases mem x hx with h | rfl
    · exact T.fp x h
    · exact n1.symm
  · rcases mem x hx with h | rfl
    · exact T.fl x h
    · exact hl
  · rcases mem x hx with h | rfl
    · exact T.cn x h hdt
    · exact n2
  · rw [List.map_append, List.nodup_append]
    refine ⟨T.np, by simp, fun x hx y hy => ?_⟩
    obtain ⟨x', h1, rfl⟩ := List.mem_map.1 hx
    obtain rfl : y = N := by simpa using hy
    exact hno x' h1
set_option maxRecDepth 100000 in
/-- Get and Pin find the page, or read it. -/
theorem Tl.fetch {fr : Int} {d d' : D} {fs pre : List Fr} {f : Fr} {iv pv : List Int} {h mi ev h' mi' ev' n : Int} {t s : Nat} (T : Tl fr d fs iv pv h mi ev t s) (hd : LD d) (F : FetchTo fr d fs h mi ev n d' (pre ++ [f]) h' mi' ev') : Tl fr d' (pre ++ [f]) iv pv h' mi' ev' t (s + 2) ∧ LD d' := by
  cases F with
  | hit A B f' q1 q2 e1 e2 e3 e4 e5 =>
    subst e1 e3 e4 e5 q1
    have T' := (T.perm (perm_snoc e2)).mono (Nat.le_refl t) (show s ≤ s + 2 by omega)
    have := T.hh
    exact ⟨{ T' with hh := ⟨by omega, by omega⟩ }, hd⟩
  | miss N fs1 g b q1 q2 q3 q4 e2 e3 e4 =>
    have := T.cr; have := T.mm
    have T1 : Tl fr { d with cr := d.cr + 1 } fs iv pv h mi ev t (s + 1) := { T.mono (Nat.le_refl t) (show s ≤ s + 1 by omega) with cr := ⟨by show 0 ≤ d.cr + 1; omega, by show d.cr + 1 ≤ _; omega⟩ }
    obtain ⟨T2, hd2, hlt⟩ := T1.room (d := { d with cr := d.cr + 1 }) hd q4
    have hno : ∀ x ∈ fs, x.n ≠ N := fun x hx e => q1 x hx (by rw [e, q2])
    have hN : N < 8 := by rw [← T.ps]; exact q3
    have T3 := T2.add hlt hN (fun x hx => hno x (q4.sub x hx)) g b (rd d N) (T.no N hN hno).2
    rw [← e2] at T3
    subst e3 e4
    exact ⟨{ T3 with mm := ⟨by omega, by omega⟩ }, hd2⟩
set_option maxRecDepth 100000 in
theorem pins_upd {pv : List Int} {n : Nat} (h : n < pv.length) (x : Int) : (pv.set n x).getD n 0 = x := getD_set_self _ _ _ _ h
set_option maxRecDepth 100000 in
/-- One page is pinned otherwise. -/
theorem Tl.pin {fr : Int} {d : D} {A B : List Fr} {f : Fr} {iv pv : List Int} {h mi ev : Int} {t s : Nat} (T : Tl fr d (A ++ f :: B) iv pv h mi ev t s) (k : Nat) (hk : k ≤ s + 1) : Tl fr d (A ++ { f with pins := k } :: B) iv (pv.set f.n (k : Int)) h mi ev t (s + 1) := by
  have fm : f ∈ A ++ f :: B := by simp
  have np := T.np
  have npn := np
  rw [List.map_append, List.map_cons, List.nodup_append, List.nodup_cons] at npn
  have hne : ∀ x ∈ A ++ B, x.n ≠ f.n := fun x hx => by
    rcases List.mem_append.1 hx with h | h
    · exact npn.2.2 _ (List.mem_map_of_mem h) _ (List.mem_cons_self ..)
    · exact fun e => npn.2.1.1 (e ▸ List.mem_map_of_mem h)
  have hdc : dc (A ++ { f with pins := k } :: B) = dc (A ++ f :: B) := by rw [dc_app, dc_app, dc_cons, dc_cons]
  have hfn := T.fn f fm
  have T' := T.mono (Nat.le_refl t) (show s ≤ s + 1 by omega)
  refine { T' with lp := by rw [List.length_set]; exact T.lp, wp := fun n hn => ?_, fn := fun x hx => ?_, fp := fun x hx => ?_, fl := fun x hx => ?_, cn := fun x hx hdt => ?_, no := fun n hn hx => ?_, le := by have := T.le; simpa using this, np := by rw [map_upd Fr.n (f := f) (f' := { f with pins := k }) rfl]; exact np, cw := by rw [hdc]; exact T.cw, lo := by rw [hdc]; exact T.lo }
  · by_cases e : n = f.n
    · subst e; rw [getD_set_self _ _ _ _ (by rw [T.lp]; exact hn)]; omega
    · rw [getD_set_ne _ _ _ e]; exact T'.wp n hn
  · rcases mem_upd (f := f) hx with rfl | ⟨h1, _⟩
    · exact hfn
    · exact T.fn x h1
  · rcases mem_upd (f := f) hx with rfl | ⟨h1, h2⟩
    · exact (getD_set_self _ _ _ _ (by rw [T.lp]; exact hfn)).symm
    · rw [getD_set_ne _ _ _ (hne x h2)]; exact T.fp x h1
  · rcases mem_upd (f := f) hx with rfl | ⟨h1, _⟩
    · exact T.fl f fm
    · exact T.fl x h1
  · rcases mem_upd (f := f) hx with rfl | ⟨h1, _⟩
    · exact T.cn f fm hdt
    · exact T.cn x h1 hdt
  · have e : n ≠ f.n := fun e => hx { f with pins := k } (by simp) e.symm
    rw [getD_set_ne _ _ _ e]
    refine T.no n hn fun x hx' => ?_
    rcases mem_upd (f := { f with pins := k }) hx' with rfl | ⟨h1, _⟩
    · exact fun e' => e e'.symm
    · exact hx x h1
set_option maxRecDepth 100000 in
/-- A page that is held has other bytes. -/
theorem Tl.putHeld {fr : Int} {d : D} {A B : List Fr} {f : Fr} {iv pv : List Int} {h mi ev : Int} {t s : Nat} (T : Tl fr d (A ++ f :: B) iv pv h mi ev t s) (x : Int) (hx0 : 0 ≤ x ∧ x ≤ 255) : Tl fr d (A ++ B ++ [{ f with l := List.replicate 512 x, dt := true }]) (iv.set f.n x) pv h mi ev (t + 1) s := by
  have fm : f ∈ A ++ f :: B := by simp
  have np := T.np
  have npn := np
  rw [List.map_append, List.map_cons, List.nodup_append, List.nodup_cons] at npn
  have hne : ∀ y ∈ A ++ B, y.n ≠ f.n := fun y hy => by
    rcases List.mem_append.1 hy with h | h
    · exact npn.2.2 _ (List.mem_map_of_mem h) _ (List.mem_cons_self ..)
    · exact fun e => npn.2.1.1 (e ▸ List.mem_map_of_mem h)
  have hfn := T.fn f fm
  have sub : ∀ y ∈ A ++ B, y ∈ A ++ f :: B := fun y hy => by rcases List.mem_append.1 hy with h | h <;> simp [h]
  have mem : ∀ y ∈ A ++ B ++ [{ f with l := List.replicate 512 x, dt := true }], y ∈ A ++ B ∨ y = { f with l := List.replicate 512 x, dt := true } := fun y hy => by
    rcases List.mem_append.1 hy with h | h
    · exact .inl h
    · exact .inr (by simpa using h)
  have hdc : dc (A ++ B ++ [{ f with l := List.replicate 512 x, dt := true }]) ≤ dc (A ++ f :: B) + 1 := by rw [dc_snoc, dc_app, dc_app, dc_cons]; simp
  have c1 := T.cw; have c2 := T.lo
  have T' := T.mono (show t ≤ t + 1 by omega) (Nat.le_refl s)
  refine { T' with li := by rw [List.length_set]; exact T.li, wi := fun n hn => ?_, fn := fun y hy => ?_, fp := fun y hy => ?_, fl := fun y hy => ?_, cn := fun y hy hdt => ?_, no := fun n hn hy => ?_, le := by have := T.le; simpa using this, np := ?_, cw := ⟨c1.1, by omega⟩, lo := by omega }
  · by_cases e : n = f.n
    · subst e; rw [getD_set_self _ _ _ _ (by rw [T.li]; exact hn)]; exact hx0
    · rw [getD_set_ne _ _ _ e]; exact T.wi n hn
  · rcases mem y hy with h | rfl
    · exact T.fn y (sub y h)
    · exact hfn
  · rcases mem y hy with h | rfl
    · exact T.fp y (sub y h)
    · exact T.fp f fm
  · rcases mem y hy with h | rfl
    · rw [pgI_set_ne _ _ (hne y h)]; exact T.fl y (sub y h)
    · exact (pgI_set_self _ _ _ (by rw [T.li]; exact hfn)).symm
  · rcases mem y hy with h | rfl
    · rw [pgI_set_ne _ _ (hne y h)]; exact T.cn y (sub y h) hdt
    · cases hdt
  · have e : n ≠ f.n := fun e => hy { f with l := List.replicate 512 x, dt := true } (by simp) e.symm
    rw [pgI_set_ne _ _ e]
    refine T.no n hn fun y hy' => ?_
    simp only [List.mem_append, List.mem_cons] at hy'
    rcases hy' with h | h | h
    · exact hy y (by simp [h])
    · subst h; exact fun e' => e e'.symm
    · exact hy y (by simp [h])
  · have := ((perm_used A B { f with l := List.replicate 512 x, dt := true }).map Fr.n).nodup_iff.2
    refine this ?_
    rw [map_upd Fr.n (f := f) (f' := { f with l := List.replicate 512 x, dt := true }) rfl]
    exact np
set_option maxRecDepth 100000 in
/-- A page that was not held is held with bytes of its own. -/
theorem Tl.putNew {fr : Int} {d : D} {fs : List Fr} {iv pv : List Int} {h mi ev : Int} {t s : Nat} (T : Tl fr d fs iv pv h mi ev t s) (hlt : (fs.length : Int) < fr) {N : Nat} (hN : N < 8) (hno : ∀ f ∈ fs, f.n ≠ N) (g b : Nat) (x : Int) (hx0 : 0 ≤ x ∧ x ≤ 255) : Tl fr d (fs ++ [⟨N, g, true, 0, b, List.replicate 512 x⟩]) (iv.set N x) pv h mi ev (t + 1) s := by
  have T1 := T.add hlt hN hno g b _ rfl
  have T2 := Tl.putHeld (A := fs) (B := []) (f := ⟨N, g, false, 0, b, pgI iv N⟩) T1 x hx0
  rw [List.append_nil] at T2
  exact T2
set_option maxRecDepth 100000 in
theorem clF_dt {K : List Int} {x : Fr} (h : (x.n : Int) ∈ K) : (clF K x).dt = false := by unfold clF; rw [if_pos h]
set_option maxRecDepth 100000 in
/-- The device behind the writes of some pages: those tell their bytes, the others stay. -/
theorem clD_rd {d : D} {fs : List Fr} (hps : d.pages = 8) (hd : LD d) : ∀ K : List Int, LD (clD fs d K) ∧ ∀ n, n < 8 → rd (clD fs d K) n = rd d n ∨ ∃ f ∈ fs, f.n = n ∧ f.dt = true ∧ rd (clD fs d K) n = f.l := by
  intro K
  induction K generalizing d with
  | nil => exact ⟨hd, fun n _ => .inl rfl⟩
  | cons k r ih =>
    show LD (clD fs (nx fs d k) r) ∧ _
    have base : LD (nx fs d k) ∧ (nx fs d k).pages = 8 ∧ ∀ n, n < 8 → rd (nx fs d k) n = rd d n ∨ ∃ f ∈ fs, f.n = n ∧ f.dt = true ∧ rd (nx fs d k) n = f.l := by
      unfold nx
      split
      · rename_i f hf
        have fm := List.mem_of_find?_eq_some hf
        unfold cl
        split
        · rename_i hdt
          refine ⟨hd.wrote _ _, hps, fun n hn => ?_⟩
          by_cases e : n = f.n
          · subst e
            exact .inr ⟨f, fm, rfl, hdt, rd_wrote_self hd (by rw [hps]; exact hn) _⟩
          · exact .inl (rd_wrote_ne hd (by rw [hps]; exact hn) e _)
        · exact ⟨hd, hps, fun n _ => .inl rfl⟩
      · exact ⟨hd, hps, fun n _ => .inl rfl⟩
    obtain ⟨b1, b2, b3⟩ := base
    obtain ⟨i1, i2⟩ := ih b2 b1
    refine ⟨i1, fun n hn => ?_⟩
    rcases i2 n hn with h | ⟨f, h1, h2, h3, h4⟩
    · rcases b3 n hn with h' | ⟨f, h1, h2, h3, h4⟩
      · exact .inl (h.trans h')
      · exact .inr ⟨f, h1, h2, h3, h.trans h4⟩
    · exact .inr ⟨f, h1, h2, h3, h4⟩
set_option maxRecDepth 100000 in
/-- A page that is dirty and among them is told. -/
theorem clD_told {d : D} {fs : List Fr} (hps : d.pages = 8) (hd : LD d) (np : (fs.map Fr.n).Nodup) (fn : ∀ f ∈ fs, f.n < 8) {f : Fr} (hf : f ∈ fs) (hdt : f.dt = true) : ∀ K : List Int, (f.n : Int) ∈ K → rd (clD fs d K) f.n = f.l := by
  intro K
  induction K generalizing d with
  | nil => intro h; cases h
  | cons k r ih =>
    intro hk
    obtain ⟨A, B, e⟩ := List.append_of_mem hf
    have hnx : LD (nx fs d k) ∧ (nx fs d k).pages = 8 := by
      unfold nx
      split
      · unfold cl
        split
        · exact ⟨hd.wrote _ _, hps⟩
        · exact ⟨hd, hps⟩
      · exact ⟨hd, hps⟩
    by_cases hr : (f.n : Int) ∈ r
    · exact ih hnx.2 hnx.1 hr
    · obtain rfl : k = (f.n : Int) := by
        rcases List.mem_cons.1 hk with h | h
        · exact h.symm
        · exact absurd h hr
      show rd (clD fs (nx fs d (f.n : Int)) r) f.n = f.l
      rcases (clD_rd hnx.2 hnx.1 r).2 f.n (fn f hf) with h | ⟨y, h1, h2, h3, h4⟩
      · rw [h, nx_at np e]
        unfold cl
        rw [if_pos hdt]
        exact rd_wrote_self hd (by rw [hps]; exact fn f hf) _
      · rw [h4, np_one np e h1 h2]
/-- Is the page of that number dirty? -/
def isD (fs : List Fr) (k : Int) : Bool := match fs.find? (fun f => decide ((f.n : Int) = k)) with | some f => f.dt | none => false
set_option maxRecDepth 100000 in
theorem nx_cost (fs : List Fr) (d : D) (k : Int) : (nx fs d k).cw = d.cw + (if isD fs k = true then 1 else 0) ∧ (nx fs d k).loose.length = d.loose.length + (if isD fs k = true then 1 else 0) := by
  unfold nx isD
  cases hf : fs.find? (fun f => decide ((f.n : Int) = k)) with
  | none => simp
  | some f =>
    show (cl d f).cw = d.cw + (if f.dt = true then 1 else 0) ∧ (cl d f).loose.length = d.loose.length + (if f.dt = true then 1 else 0)
    unfold cl
    cases hdt : f.dt
    · simp
    · refine ⟨rfl, ?_⟩
      show (d.loose ++ [_]).length = _
      simp
set_option maxRecDepth 100000 in
theorem clD_cost (fs : List Fr) (d : D) (K : List Int) : (clD fs d K).cw = d.cw + (K.filter (isD fs)).length ∧ (clD fs d K).loose.length = d.loose.length + (K.filter (isD fs)).length := by
  induction K generalizing d with
  | nil => exact ⟨by show d.cw = d.cw + ((0 : Nat) : Int); omega, rfl⟩
  | cons k r ih =>
    obtain ⟨i1, i2⟩ := ih (nx fs d k)
    obtain ⟨n1, n2⟩ := nx_cost fs d k
    show (clD fs (nx fs d k) r).cw = _ ∧ (clD fs (nx fs d k) r).loose.length = _
    rw [i1, i2, n1, n2]
    cases h : isD fs k
    · simp [h]
    · simp [h]; omega
set_option maxRecDepth 100000 in
theorem cost_all {fs : List Fr} (np : (fs.map Fr.n).Nodup) {ks : List Int} (hp : ks.Perm (fs.map fun f => (f.n : Int))) : (ks.filter (isD fs)).length = dc fs := by
  rw [(hp.filter _).length_eq, List.filter_map, List.length_map]
  unfold dc
  congr 1
  refine List.filter_congr fun f hf => ?_
  obtain ⟨A, B, e⟩ := List.append_of_mem hf
  show isD fs (f.n : Int) = f.dt
  unfold isD
  rw [find_n np e]
set_option maxRecDepth 100000 in
theorem dc_clFs {fs : List Fr} {ks : List Int} (h : ∀ f ∈ fs, (f.n : Int) ∈ ks) : dc (clFs fs ks) = 0 := by
  unfold dc clFs
  rw [List.length_eq_zero_iff, List.filter_eq_nil_iff]
  intro x hx
  obtain ⟨y, hy, rfl⟩ := List.mem_map.1 hx
  rw [clF_dt (h y hy)]
  simp
set_option maxRecDepth 100000 in
/-- Flush. -/
theorem Tl.flush {fr : Int} {d : D} {fs : List Fr} {iv pv : List Int} {h mi ev : Int} {t s : Nat} (T : Tl fr d fs iv pv h mi ev t s) (hd : LD d) {ks : List Int} (hp : ks.Perm (fs.map fun f => (f.n : Int))) : Tl fr (clD fs d ks) (clFs fs ks) iv pv h mi ev t s ∧ (∀ n, n < 8 → rd (clD fs d ks) n = pgI iv n) := by
  have all : ∀ f ∈ fs, (f.n : Int) ∈ ks := fun f hf => hp.mem_iff.2 (List.mem_map_of_mem (f := fun f : Fr => (f.n : Int)) hf)
  have hrd : ∀ n, n < 8 → rd (clD fs d ks) n = pgI iv n := fun n hn => by
    by_cases hin : ∃ f ∈ fs, f.n = n
    · obtain ⟨f, hf, rfl⟩ := hin
      cases hdt : f.dt with
      | true => rw [clD_told T.ps hd T.np T.fn hf hdt ks (all f hf)]; exact T.fl f hf
      | false =>
        obtain ⟨A, B, e⟩ := List.append_of_mem hf
        rcases (clD_rd T.ps hd ks).2 f.n hn with h | ⟨y, h1, h2, h3, h4⟩
        · rw [h]; exact T.cn f hf hdt
        · rw [np_one T.np e h1 h2, hdt] at h3; cases h3
    · have hno : ∀ f ∈ fs, f.n ≠ n := fun f hf e => hin ⟨f, hf, e⟩
      rcases (clD_rd T.ps hd ks).2 n hn with h | ⟨y, h1, h2, _⟩
      · rw [h]; exact (T.no n hn hno).2
      · exact absurd h2 (hno y h1)
  obtain ⟨k1, k2⟩ := clD_cost fs d ks
  rw [cost_all T.np hp] at k1 k2
  obtain ⟨u1, u2, u3, u4, u5, u6, u7, u8⟩ := clD_up fs d ks
  have c1 := T.cw; have c2 := T.lo; have cr := T.cr
  have back : ∀ x ∈ clFs fs ks, ∃ y ∈ fs, x = clF ks y := fun x hx => by
    obtain ⟨y, hy, e⟩ := List.mem_map.1 hx
    exact ⟨y, hy, e.symm⟩
  have hn0 : (clFs fs ks).map Fr.n = fs.map Fr.n := by
    unfold clFs
    rw [List.map_map]
    exact List.map_congr_left fun x _ => (clF_b ks x).2.2.1
  refine ⟨{ T with pg := u6.trans T.pg, ps := u7.trans T.ps, dn := u1.trans T.dn, ar := u2.trans T.ar, fn := fun x hx => ?_, fp := fun x hx => ?_, fl := fun x hx => ?_, cn := fun x hx _ => ?_, no := fun n hn hx => ?_, le := by have := T.le; simpa [clFs] using this, np := by rw [hn0]; exact T.np, cr := by rw [u8]; exact cr, cw := by rw [dc_clFs all, k1]; omega, lo := by rw [dc_clFs all, k2]; omega }, hrd⟩
  · obtain ⟨y, hy, rfl⟩ := back x hx
    rw [(clF_b ks y).2.2.1]; exact T.fn y hy
  · obtain ⟨y, hy, rfl⟩ := back x hx
    rw [(clF_b ks y).2.2.1, (clF_b ks y).2.2.2.2]; exact T.fp y hy
  · obtain ⟨y, hy, rfl⟩ := back x hx
    rw [(clF_b ks y).2.2.1, (clF_b ks y).2.2.2.1]; exact T.fl y hy
  · obtain ⟨y, hy, rfl⟩ := back x hx
    rw [(clF_b ks y).2.2.1]; exact hrd _ (T.fn y hy)
  · exact ⟨(T.no n hn fun f hf e => hx (clF ks f) (List.mem_map_of_mem hf) (by rw [(clF_b ks f).2.2.1]; exact e)).1, hrd n hn⟩
end Go.Proofs.Ytmelhpghpcpoiab
