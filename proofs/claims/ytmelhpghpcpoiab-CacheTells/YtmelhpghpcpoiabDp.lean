/- Plain mathematics of CacheTells: what holds between the calls. -/
import Derived.Test.YtmelhpghpcpoiabDk
import Derived.Test.YtmelhpghpcpoiabDl
import Derived.Test.YtmelhpghpcpoiabDn
import Derived.Test.YtmelhpghpcpoiabDo
namespace Go.Proofs.Ytmelhpghpcpoiab
open Go.RowKit Go.Maps

/-- A page of one byte. -/
def pgI (iv : List Int) (n : Nat) : List Int := List.replicate 512 (iv.getD n 0)
structure Tl (fr : Int) (d : D) (fs : List Fr) (iv pv : List Int) (h mi ev : Int) (t s : Nat) : Prop where
  pg : d.page = 512
  ps : d.pages = 8
  dn : d.down = false
  ar : d.armed = false
  li : iv.length = 8
  lp : pv.length = 8
  wi : ∀ n, n < 8 → 0 ≤ iv.getD n 0 ∧ iv.getD n 0 ≤ 255
  wp : ∀ n, n < 8 → 0 ≤ pv.getD n 0 ∧ pv.getD n 0 ≤ s
  fn : ∀ f ∈ fs, f.n < 8
  fp : ∀ f ∈ fs, (f.pins : Int) = pv.getD f.n 0
  fl : ∀ f ∈ fs, f.l = pgI iv f.n
  cn : ∀ f ∈ fs, f.dt = false → rd d f.n = pgI iv f.n
  no : ∀ n, n < 8 → (∀ f ∈ fs, f.n ≠ n) → pv.getD n 0 = 0 ∧ rd d n = pgI iv n
  le : (fs.length : Int) ≤ fr
  f1 : 1 ≤ fr ∧ fr ≤ 4096
  np : (fs.map Fr.n).Nodup
  cr : 0 ≤ d.cr ∧ d.cr ≤ s
  cw : 0 ≤ d.cw ∧ d.cw + dc fs ≤ t
  lo : d.loose.length + dc fs ≤ t
  hh : 0 ≤ h ∧ h ≤ s
  mm : 0 ≤ mi ∧ mi ≤ s
  ee : 0 ≤ ev ∧ ev ≤ s
/-- What a device's memory says of its lists. -/
def LD (d : D) : Prop := d.last.length = d.pages ∧ ∀ k, k < d.pages → 0 ≤ d.last.getD k 0 ∧ d.last.getD k 0 ≤ d.loose.length
set_option maxRecDepth 100000 in
theorem Dv.ld {w : World} {F : Nat → Prop} {a : Nat} {d : D} (h : Dv w F a d) : LD d := by
  obtain ⟨bs, bl, vL, vK, ha, hr⟩ := h
  exact ⟨hr.nl, fun k hk => ⟨(hr.lst k hk).1, (hr.lst k hk).2.1⟩⟩
set_option maxRecDepth 100000 in
theorem getD_set_self {α : Type} (l : List α) (n : Nat) (x y : α) (h : n < l.length) : (l.set n x).getD n y = x := by simp [List.getD, h]
set_option maxRecDepth 100000 in
theorem getD_set_ne {α : Type} (l : List α) {n k : Nat} (x y : α) (h : k ≠ n) : (l.set n x).getD k y = l.getD k y := by simp [List.getD, List.getElem?_set_ne (Ne.symm h)]
set_option maxRecDepth 100000 in
theorem getD_app_left {α : Type} (l m : List α) (x : α) {i : Nat} (h : i < l.length) : (l ++ m).getD i x = l.getD i x := by
  simp only [List.getD]
  rw [List.getElem?_append_left h]
set_option maxRecDepth 100000 in
theorem rd_wrote_self {d : D} (hd : LD d) {n : Nat} (hn : n < d.pages) (b : List Int) : rd (d.wrote n b) n = b := by
  unfold rd
  have e : (d.wrote n b).last.getD n 0 = (d.loose.length : Int) + 1 := getD_set_self d.last n _ _ (by rw [hd.1]; exact hn)
  rw [e, if_pos (by omega)]
  have : ((d.loose.length : Int) + 1).toNat - 1 = d.loose.length := by omega
  rw [this]
  show ((d.loose ++ [(n, b)]).getD d.loose.length (0, [])).2 = b
  simp [List.getD]
set_option maxRecDepth 100000 in
theorem rd_wrote_ne {d : D} (hd : LD d) {n k : Nat} (hk : k < d.pages) (hne : k ≠ n) (b : List Int) : rd (d.wrote n b) k = rd d k := by
  unfold rd
  have e : (d.wrote n b).last.getD k 0 = d.last.getD k 0 := getD_set_ne d.last _ _ hne
  rw [e]
  split
  · have h2 := hd.2 k hk
    show ((d.loose ++ [(n, b)]).getD _ (0, [])).2 = _
    rw [getD_app_left _ _ _ (by omega)]
  · rfl
set_option maxRecDepth 100000 in
theorem LD.wrote {d : D} (hd : LD d) (n : Nat) (b : List Int) : LD (d.wrote n b) := by
  refine ⟨?_, fun k hk => ?_⟩
  · show (d.last.set n _).length = d.pages
    rw [List.length_set]; exact hd.1
  · have h2 := hd.2 k hk
    have el : (d.wrote n b).loose.length = d.loose.length + 1 := by show (d.loose ++ [_]).length = _; simp
    by_cases e : k = n
    · subst e
      have e1 : (d.wrote k b).last.getD k 0 = (d.loose.length : Int) + 1 := getD_set_self d.last k _ _ (by rw [hd.1]; exact hk)
      rw [e1, el]
      omega
    · have e1 : (d.wrote n b).last.getD k 0 = d.last.getD k 0 := getD_set_ne d.last _ _ e
      rw [e1, el]
      omega
set_option maxRecDepth 100000 in
theorem Tl.mono {fr : Int} {d : D} {fs : List Fr} {iv pv : List Int} {h mi ev : Int} {t t' s s' : Nat} (T : Tl fr d fs iv pv h mi ev t s) (ht : t ≤ t') (hs : s ≤ s') : Tl fr d fs iv pv h mi ev t' s' := by
  have := T.cw; have := T.lo; have := T.cr; have := T.hh; have := T.mm; have := T.ee
  exact { T with wp := fun n hn => ⟨(T.wp n hn).1, by have := (T.wp n hn).2; omega⟩, cr := ⟨by omega, by omega⟩, cw := ⟨by omega, by omega⟩, lo := by omega, hh := ⟨by omega, by omega⟩, mm := ⟨by omega, by omega⟩, ee := ⟨by omega, by omega⟩ }
set_option maxRecDepth 100000 in
theorem dc_perm {fs gs : List Fr} (h : gs.Perm fs) : dc gs = dc fs := (h.filter _).length_eq
set_option maxRecDepth 100000 in
theorem pc_perm {fs gs : List Fr} (h : gs.Perm fs) : pc gs = pc fs := (h.filter _).length_eq
set_option maxRecDepth 100000 in
theorem Tl.perm {fr : Int} {d : D} {fs gs : List Fr} {iv pv : List Int} {h mi ev : Int} {t s : Nat} (T : Tl fr d fs iv pv h mi ev t s) (hp : gs.Perm fs) : Tl fr d gs iv pv h mi ev t s :=
  { T with fn := fun f hf => T.fn f (hp.mem_iff.1 hf), fp := fun f hf => T.fp f (hp.mem_iff.1 hf), fl := fun f hf => T.fl f (hp.mem_iff.1 hf), cn := fun f hf => T.cn f (hp.mem_iff.1 hf), no := fun n hn hf => T.no n hn fun f h => hf f (hp.mem_iff.2 h), le := by rw [hp.length_eq]; exact T.le, np := (hp.map _).nodup_iff.2 T.np, cw := by rw [dc_perm hp]; exact T.cw, lo := by rw [dc_perm hp]; exact T.lo }
set_option maxRecDepth 100000 in
theorem dc_cons (f : Fr) (B : List Fr) : dc (f :: B) = (if f.dt = true then 1 else 0) + dc B := by
  unfold dc
  cases h : f.dt <;> simp [h]
  omega
set_option maxRecDepth 100000 in
theorem dc_app (A B : List Fr) : dc (A ++ B) = dc A + dc B := by unfold dc; rw [List.filter_append, List.length_append]
set_option maxRecDepth 100000 in
/-- A page that is not pinned goes. -/
theorem Tl.goes {fr : Int} {d : D} {A B : List Fr} {f : Fr} {iv pv : List Int} {h mi ev : Int} {t s : Nat} (T : Tl fr d (A ++ f :: B) iv pv h mi ev t s) (hd : LD d) (h0 : f.pins = 0) : Tl fr (cl d f) (A ++ B) iv pv h mi (ev + 1) t (s + 1) ∧ LD (cl d f) ∧ ((A ++ B).length : Int) < fr := by
  have fm : f ∈ A ++ f :: B := by simp
  have sub : ∀ x ∈ A ++ B, x ∈ A ++ f :: B := fun x hx => by rcases List.mem_append.1 hx with h | h <;> simp [h]
  have np := T.np
  rw [List.map_append, List.map_cons, List.nodup_append, List.nodup_cons] at np
  have hne : ∀ x ∈ A ++ B, x.n ≠ f.n := fun x hx => by
    rcases List.mem_append.1 hx with h | h
    · exact np.2.2 _ (List.mem_map_of_mem h) _ (List.mem_cons_self ..)
    · exact fun e => np.2.1.1 (e ▸ List.mem_map_of_mem h)
  have fn := T.fn f fm
  have rself : rd (cl d f) f.n = pgI iv f.n := by
    unfold cl
    split
    · rw [rd_wrote_self hd (by rw [T.ps]; exact fn)]; exact T.fl f fm
    · exact T.cn f fm (by rename_i h; simpa using h)
  have rne : ∀ k, k < 8 → k ≠ f.n → rd (cl d f) k = rd d k := fun k hk hne => by
    unfold cl
    split
    · exact rd_wrote_ne hd (by rw [T.ps]; exact hk) hne _
    · rfl
  have hdc : dc (A ++ f :: B) = dc (A ++ B) + (if f.dt = true then 1 else 0) := by rw [dc_app, dc_app, dc_cons]; omega
  have c1 := T.cw
  have c2 := T.lo
  rw [hdc] at c1 c2
  have ee := T.ee; have hh := T.hh; have mm := T.mm; have cr := T.cr
  have hln : (A ++ f :: B).length = (A ++ B).length + 1 := by simp; omega
  have le := T.le
  rw [hln] at le
  have hcw : 0 ≤ (cl d f).cw ∧ (cl d f).cw + dc (A ++ B) ≤ t ∧ (cl d f).loose.length + dc (A ++ B) ≤ t := by
    unfold cl
    split
    · rename_i hdt
      rw [if_pos hdt] at c1 c2
      refine ⟨by show 0 ≤ d.cw + 1; omega, by show d.cw + 1 + _ ≤ _; omega, ?_⟩
      show (d.loose ++ [_]).length + _ ≤ _
      rw [List.length_append]
      simp
      omega
    · rename_i hdt
      rw [if_neg hdt] at c1 c2
      exact ⟨c1.1, by omega, by omega⟩
  obtain ⟨u1, u2, u3, u4, u5, u6, u7, u8⟩ := cl_up (d := d) (f := f)
  refine ⟨⟨u6.trans T.pg, u7.trans T.ps, u1.trans T.dn, u2.trans T.ar, T.li, T.lp, T.wi, fun n hn => ⟨(T.wp n hn).1, by have := (T.wp n hn).2; omega⟩, fun x hx => T.fn x (sub x hx), fun x hx => T.fp x (sub x hx), fun x hx => T.fl x (sub x hx), fun x hx hdt => ?_, fun n hn hx => ?_, by omega, T.f1, ?_, by rw [u8]; exact ⟨by omega, by omega⟩, ⟨hcw.1, by omega⟩, by omega, ⟨by omega, by omega⟩, ⟨by omega, by omega⟩, ⟨by omega, by omega⟩⟩, ?_, by omega⟩
  · rw [rne _ (T.fn x (sub x hx)) (hne x hx)]; exact T.cn x (sub x hx) hdt
  · by_cases e : n = f.n
    · subst e
      refine ⟨?_, rself⟩
      rw [← T.fp f fm, h0]
      rfl
    · obtain ⟨g1, g2⟩ := T.no n hn fun x hx' => by
        simp only [List.mem_append, List.mem_cons] at hx'
        rcases hx' with h | h | h
        · exact hx x (by simp [h])
        · subst h; exact fun e' => e e'.symm
        · exact hx x (by simp [h])
      exact ⟨g1, by rw [rne n hn e]; exact g2⟩
  · rw [List.map_append, List.nodup_append]
    exact ⟨np.1, np.2.1.2, fun x hx y hy => np.2.2 x hx y (List.mem_cons_of_mem _ hy)⟩
  · unfold cl
    split
    · exact hd.wrote _ _
    · exact hd
set_option maxRecDepth 100000 in
theorem Tl.room {fr : Int} {d d2 : D} {fs fs2 : List Fr} {iv pv : List Int} {h mi ev ev2 : Int} {t s : Nat} (T : Tl fr d fs iv pv h mi ev t s) (hd : LD d) (r : RoomTo fr d fs ev d2 fs2 ev2) : Tl fr d2 fs2 iv pv h mi ev2 t (s + 1) ∧ LD d2 ∧ (fs2.length : Int) < fr := by
  rcases r with ⟨h1, rfl, rfl, rfl⟩ | ⟨h1, A, f, B, rfl, h2, _, rfl, rfl, rfl⟩
  · exact ⟨T.mono (by omega) (by omega), hd, h1⟩
  · exact T.goes hd h2
set_option maxRecDepth 100000 in
theorem pgI_set_self (iv : List Int) (n : Nat) (x : Int) (h : n < iv.length) : pgI (iv.set n x) n = List.replicate 512 x := by unfold pgI; rw [getD_set_self _ _ _ _ h]
set_option maxRecDepth 100000 in
theorem pgI_set_ne (iv : List Int) {n k : Nat} (x : Int) (h : k ≠ n) : pgI (iv.set n x) k = pgI iv k := by unfold pgI; rw [getD_set_ne _ _ _ h]
end Go.Proofs.Ytmelhpghpcpoiab
