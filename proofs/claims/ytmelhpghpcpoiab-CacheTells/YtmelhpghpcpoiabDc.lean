/- The row by use: remove, add, renew, by what they leave. -/
import Derived.Test.YtmelhpghpcpoiabDb
namespace Go.Proofs.Ytmelhpghpcpoiab
open Go.RowKit Go.Maps

set_option maxRecDepth 100000 in
theorem Rw.hs {w : World} {c a : Nat} {fr h mi ev : Int} {m p : Nat} {fs : List Fr} (r : Rw w c a fr h mi ev m p fs) {f : Fr} (hf : f ∈ fs) : ∃ n' b' dt' pins' o' y', Hs w f.b (cL n' b' dt' pins' o' y') tL := by
  obtain ⟨o, y, h⟩ := sg_mem r.hr hf
  exact ⟨_, _, _, _, _, _, h⟩
set_option maxRecDepth 100000 in
theorem Rw.mid {w : World} {c a : Nat} {fr h mi ev : Int} {m p : Nat} {A B : List Fr} {f : Fr} (r : Rw w c a fr h mi ev m p (A ++ f :: B)) : Hs w f.b (lc p f (lst none A) (hd B none)) tL := by
  have := r.hr
  rw [sg_app] at this
  exact this.2.1
set_option maxRecDepth 100000 in
theorem Rw.ne {w : World} {c a : Nat} {fr h mi ev : Int} {m p : Nat} {A B : List Fr} {f : Fr} (r : Rw w c a fr h mi ev m p (A ++ f :: B)) : (∀ x ∈ A, x.b ≠ f.b) ∧ (∀ x ∈ B, x.b ≠ f.b) ∧ ∀ x ∈ A, ∀ y ∈ B, x.b ≠ y.b := by
  have nd := r.nd
  rw [List.map_append, List.map_cons, List.nodup_append] at nd
  obtain ⟨nA, nB, nAB⟩ := nd
  rw [List.nodup_cons] at nB
  exact ⟨fun x hx => nAB _ (List.mem_map_of_mem hx) _ (List.mem_cons_self ..), fun x hx e => nB.1 (e ▸ List.mem_map_of_mem hx), fun x hx y hy => nAB _ (List.mem_map_of_mem hx) _ (List.mem_cons_of_mem _ (List.mem_map_of_mem hy))⟩
set_option maxRecDepth 100000 in
theorem remove_rw (w : World) (c a : Nat) (fr h mi ev : Int) (m p : Nat) (A B : List Fr) (f : Fr) (r : Rw w c a fr h mi ev m p (A ++ f :: B)) :
    Calls Try.prog 34 #[.pointer (some ⟨c, 3, none⟩), pt f.b] w fun e u => e = .returned (.tuple #[]) ∧ Rw u c a fr h mi ev m p (A ++ B) ∧ Hs u f.b (lc p f none none) tL ∧ Ch (Own c (A ++ f :: B)) w u ∧ u.heap.size = w.heap.size := by
  obtain ⟨n1, n2, n3⟩ := r.ne
  refine (remove_any w c f.b a fr h mi ev m _ _ (lst none A) (hd B none) f.n _ f.dt f.pins r.hc r.mid (fun e => r.nc f (by simp) e.symm) ?_ ?_ ?_).mono ?_
  · intro x hx
    obtain ⟨y, hy, rfl⟩ := lst_mem hx
    exact ⟨n1 y hy, r.nc y (by simp [hy]), r.hs (by simp [hy])⟩
  · intro x hx
    obtain ⟨y, hy, rfl⟩ := hd_mem hx
    exact ⟨n2 y hy, r.nc y (by simp [hy]), r.hs (by simp [hy])⟩
  · intro x hx hx'
    obtain ⟨y, hy, rfl⟩ := lst_mem hx
    obtain ⟨z, hz, e⟩ := hd_mem hx'
    exact n3 y hy z hz e.symm
  · rintro e u ⟨rfl, q, rfl⟩
    exact ⟨rfl, rem_rw r q⟩
set_option maxRecDepth 100000 in
theorem addrow (w : World) (c a : Nat) (fr h mi ev : Int) (m p : Nat) (fs : List Fr) (f : Fr) (o : Option Nat) (r : Rw w c a fr h mi ev m p fs) (hf : Hs w f.b (lc p f o none) tL) (hn : ∀ x ∈ fs, x.b ≠ f.b) (hfc : f.b ≠ c) :
    Calls Try.prog 33 #[.pointer (some ⟨c, 3, none⟩), pt f.b] w fun e u => e = .returned (.tuple #[]) ∧ Rw u c a fr h mi ev m p (fs ++ [f]) ∧ Ch (Own c (fs ++ [f])) w u ∧ u.heap.size = w.heap.size := by
  refine (add_any w c f.b a fr h mi ev m _ (lst none fs) f.n _ f.dt f.pins _ _ r.hc hf (fun e => hfc e.symm) ?_).mono ?_
  · intro x hx
    obtain ⟨y, hy, rfl⟩ := lst_mem hx
    exact ⟨hn y hy, r.nc y hy, r.hs hy⟩
  · rintro e u ⟨rfl, rfl⟩
    exact ⟨rfl, add_rw r o hf hn hfc⟩
set_option maxRecDepth 100000 in
theorem own_sub {c : Nat} {A B : List Fr} {f : Fr} {k : Nat} (h : Own c (A ++ B ++ [f]) k) : Own c (A ++ f :: B) k := by
  rcases h with h | ⟨x, hx, h⟩
  · exact .inl h
  · refine .inr ⟨x, ?_, h⟩
    simp only [List.mem_append, List.mem_cons] at hx ⊢
    rcases hx with (h | h) | h
    · exact .inl h
    · exact .inr (.inr h)
    · rcases h with rfl | h
      · exact .inr (.inl rfl)
      · cases h
set_option maxRecDepth 100000 in
theorem renew_rw (w : World) (c a : Nat) (fr h mi ev : Int) (m p : Nat) (A B : List Fr) (f : Fr) (r : Rw w c a fr h mi ev m p (A ++ f :: B)) :
    Calls Try.prog 23 #[.pointer (some ⟨c, 3, none⟩), pt f.b] w fun e u => e = .returned (.tuple #[]) ∧ Rw u c a fr h mi ev m p (A ++ B ++ [f]) ∧ Ch (Own c (A ++ f :: B)) w u ∧ u.heap.size = w.heap.size := by
  have h1 := remove_rw w c a fr h mi ev m p A B f r
  obtain ⟨n1, n2, n3⟩ := r.ne
  have hfc := r.nc f (by simp)
  have HN : Hid (∀ x ∈ A ++ B, x.b ≠ f.b) := hidden fun x hx => by
    rcases List.mem_append.1 hx with h | h
    · exact n1 x h
    · exact n2 x h
  clear r n1 n2 n3
  go_enter Try.func23, Try.ntmps23
  go_wp2_with (first
    | (go_at_call 34; refine h1.mono ?_; rintro e w1 ⟨rfl, r1, l1, k1, s1⟩; have h2 := addrow w1 c a fr h mi ev m p (A ++ B) f none r1 l1 HN.out hfc; clear r1 l1)
    | (go_at_call 33; refine h2.mono ?_; rintro e w2 ⟨rfl, r2, k2, s2⟩))
  go_end0
  exact ⟨rfl, r2, k1.trans k2 fun k _ h => own_sub h, s2.trans s1⟩

/-- The map's datum and the pages that are held. -/
structure MD (D : DataW Unit) (fs : List Fr) : Prop where
  at1 : ∀ f ∈ fs, D.atKey (.int .i64 (f.n : Int)) (.lit (.int .i64 (-1))) = .lit (.int .i64 (f.b : Int))
  has1 : ∀ f ∈ fs, Maps.has D (.int .i64 (f.n : Int)) = true
  at0 : ∀ k : Int, (∀ f ∈ fs, (f.n : Int) ≠ k) → D.atKey (.int .i64 k) (.lit (.int .i64 (-1))) = .lit (.int .i64 (-1))
  has0 : ∀ k : Int, (∀ f ∈ fs, (f.n : Int) ≠ k) → Maps.has D (.int .i64 k) = false
  sz : Maps.size D = fs.length
  td : Tidy D
set_option maxRecDepth 100000 in
theorem MD.nil : MD (.map []) [] where
  at1 := fun _ h => absurd h List.not_mem_nil
  has1 := fun _ h => absurd h List.not_mem_nil
  at0 := fun _ _ => rfl
  has0 := fun _ _ => rfl
  sz := rfl
  td := tidy_empty
set_option maxRecDepth 100000 in
theorem lit_ne {x y : Int} (h : x ≠ y) : Lit.int .i64 x ≠ Lit.int .i64 y := fun e => h (by injection e)
set_option maxRecDepth 100000 in
theorem MD.put {D : DataW Unit} {fs : List Fr} (h : MD D fs) {f : Fr} (hn : ∀ x ∈ fs, x.n ≠ f.n) : MD (D.put (.int .i64 (f.n : Int)) (.lit (.int .i64 (f.b : Int)))) (fs ++ [f]) := by
  have hn' : ∀ x ∈ fs, (x.n : Int) ≠ (f.n : Int) := fun x hx e => hn x hx (by omega)
  refine ⟨fun x hx => ?_, fun x hx => ?_, fun k hk => ?_, fun k hk => ?_, ?_, h.td.put (by trivial) _⟩
  · rcases List.mem_append.1 hx with hx | hx
    · rw [atKey_put_other (lit_ne (hn' x hx))]; exact h.at1 x hx
    · obtain rfl : x = f := by simpa using hx
      exact atKey_put_same h.td.isMap (by trivial) _ _
  · rcases List.mem_append.1 hx with hx | hx
    · rw [has_put_other (lit_ne (hn' x hx))]; exact h.has1 x hx
    · obtain rfl : x = f := by simpa using hx
      exact has_put_same h.td.isMap (by trivial) _
  · rw [atKey_put_other (lit_ne (fun e => hk f (by simp) e.symm))]; exact h.at0 k fun x hx => hk x (by simp [hx])
  · rw [has_put_other (lit_ne (fun e => hk f (by simp) e.symm))]; exact h.has0 k fun x hx => hk x (by simp [hx])
  · rw [size_put h.td, h.has0 _ hn', h.sz]; simp
set_option maxRecDepth 100000 in
theorem MD.del {D : DataW Unit} {A B : List Fr} {f : Fr} (h : MD D (A ++ f :: B)) (hn : ∀ x ∈ A ++ B, x.n ≠ f.n) : MD (D.del (.int .i64 (f.n : Int))) (A ++ B) := by
  have hn' : ∀ x ∈ A ++ B, (x.n : Int) ≠ (f.n : Int) := fun x hx e => hn x hx (by omega)
  have sub : ∀ x ∈ A ++ B, x ∈ A ++ f :: B := fun x hx => by
    rcases List.mem_append.1 hx with h | h <;> simp [h]
  have back : ∀ x ∈ A ++ f :: B, x = f ∨ x ∈ A ++ B := fun x hx => by
    simp only [List.mem_append, List.mem_cons] at hx ⊢
    rcases hx with h | h | h
    · exact .inr (.inl h)
    · exact .inl h
    · exact .inr (.inr h)
  refine ⟨fun x hx => ?_, fun x hx => ?_, fun k hk => ?_, fun k hk => ?_, ?_, h.td.del _⟩
  · rw [atKey_del_other (lit_ne (hn' x hx))]; exact h.at1 x (sub x hx)
  · rw [has_del_other (lit_ne (hn' x hx))]; exact h.has1 x (sub x hx)
  · by_cases e : (f.n : Int) = k
    · subst e; exact atKey_del_same _
    · rw [atKey_del_other (lit_ne (fun e' => e e'.symm))]
      exact h.at0 k fun x hx => by
        rcases back x hx with rfl | hx
        · exact e
        · exact hk x hx
  · by_cases e : (f.n : Int) = k
    · subst e; exact has_del_same
    · rw [has_del_other (lit_ne (fun e' => e e'.symm))]
      exact h.has0 k fun x hx => by
        rcases back x hx with rfl | hx
        · exact e
        · exact hk x hx
  · have := size_del (k := .int .i64 (f.n : Int)) h.td
    rw [h.has1 f (by simp), h.sz] at this
    simp at this ⊢
    omega
set_option maxRecDepth 100000 in
theorem MD.perm {D : DataW Unit} {fs gs : List Fr} (h : MD D fs) (hs : ∀ x, x ∈ gs ↔ x ∈ fs) (hl : gs.length = fs.length) : MD D gs :=
  ⟨fun x hx => h.at1 x ((hs x).1 hx), fun x hx => h.has1 x ((hs x).1 hx), fun k hk => h.at0 k fun x hx => hk x ((hs x).2 hx), fun k hk => h.has0 k fun x hx => hk x ((hs x).2 hx), by rw [h.sz, hl], h.td⟩
set_option maxRecDepth 100000 in
/-- The map is told by what its entries are about; what a page is otherwise makes no odds. -/
theorem MD.alike {D : DataW Unit} {fs gs : List Fr} (h : MD D fs) (hl : gs.length = fs.length) (h1 : ∀ x ∈ gs, ∃ y ∈ fs, y.n = x.n ∧ y.b = x.b) (h2 : ∀ y ∈ fs, ∃ x ∈ gs, y.n = x.n) : MD D gs :=
  ⟨fun x hx => by obtain ⟨y, hy, e1, e2⟩ := h1 x hx; rw [← e1, ← e2]; exact h.at1 y hy, fun x hx => by obtain ⟨y, hy, e1, e2⟩ := h1 x hx; rw [← e1]; exact h.has1 y hy,
    fun k hk => h.at0 k fun y hy => by obtain ⟨x, hx, e⟩ := h2 y hy; rw [e]; exact hk x hx, fun k hk => h.has0 k fun y hy => by obtain ⟨x, hx, e⟩ := h2 y hy; rw [e]; exact hk x hx, by rw [h.sz, hl], h.td⟩
end Go.Proofs.Ytmelhpghpcpoiab
