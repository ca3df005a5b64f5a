/- owned: what is leaned on. -/
import Derived.Test.YtoifjcliepongaaDoorNb
import Derived.Deep.QuietTactic
import Derived.BigQuiet
namespace Go.Proofs.YtoifjcliepongaaDoor
open Go.RowKit

/-- n marks. -/
def rp (n : Nat) (y : Int) : List Int := List.replicate n y
set_option maxRecDepth 100000 in
theorem rp_length (n : Nat) (y : Int) : (rp n y).length = n := by simp [rp]
set_option maxRecDepth 100000 in
theorem rp_wf (n : Nat) (y : Int) (h : 0 ≤ y ∧ y ≤ 255) : Wf (rp n y) := by
  intro x hx
  rw [List.eq_of_mem_replicate hx]
  exact h
set_option maxRecDepth 100000 in
theorem rp_snoc (n : Nat) (y : Int) : rp n y ++ [y] = rp (n + 1) y := by
  unfold rp
  rw [List.replicate_succ']
set_option maxRecDepth 100000 in
theorem rp_getD (n : Nat) (y : Int) (i : Nat) (h : i < n) : (rp n y).getD i 0 = y := by
  simp [rp, List.getD, h]
set_option maxRecDepth 100000 in
theorem rp_of (l : List Int) (n : Nat) (y : Int) (hl : l.length = n) (h : ∀ s, s < n → l.getD s 0 = y) : l = rp n y := by
  subst hl
  refine List.ext_getElem (by rw [rp_length]) fun i h1 h2 => ?_
  have := h i h1
  simp only [List.getD, List.getElem?_eq_getElem h1, Option.getD_some] at this
  rw [this]
  simp [rp]

set_option maxRecDepth 100000 in
/-- append(x, y): in its place, or anew. -/
theorem app_one (w : World) (B : Nat) (ty : TypeId) (v : Value) (l : List Int) (y : Int) (b : Nat) (hown : OwnB w B v l) (hc : w.cell? ⟨b, 0, none⟩ = some (.int .u8 y)) (hb : l.length + 1 ≤ 140737488355328) (hB : B ≤ w.heap.size) :
    ∃ v' w', (Builtin.append_ #[29, 29] ty #[v, .slice (some ⟨b, 0, none⟩) 1 1]).run Tryd.prog w = .ok v' w' ∧ OwnB w' B v' (l ++ [y]) ∧
      ((v'.ownBlock = v.ownBlock ∧ w.grownBy w' v.ownBlock) ∨ (Below w.heap.size w w' ∧ ∀ k, v'.ownBlock = some k → w.heap.size ≤ k)) := by
  obtain ⟨i0, hi, hz0, hz1, hz2⟩ := info_parts info5
  have hnews : ∀ j u, (By [y])[j]? = some u → w.cell? ((⟨b, 0, none⟩ : Addr).add j) = some u := fun j u hu => by
    obtain ⟨h1, rfl⟩ := getElem?_By [y] j u hu
    have hj : j = 0 := by simpa using h1
    subst hj
    simpa [Addr.add_lit] using hc
  obtain ⟨v', w', hr, h2, h3, h4⟩ := run_append_own (P := Tryd.prog) w B 29 ty 5 i0 (.int .u8 0) 1 1 Tryd.underlying29 hi hz0 hz1 hz2 rfl (by decide) v l.length (By l) hown ⟨b, 0, none⟩ 1 1 (By [y]) rfl hnews (By_one [y]) (by unfold maxLen; omega) (by omega) hB
  refine ⟨v', w', hr, ?_, ?_⟩
  · unfold OwnB
    rw [By_append, List.length_append]
    exact h2
  · rcases hown.2 with ⟨rfl, h0⟩ | ⟨g, cap, cur, rfl, hbg, hg, hnc, hcm, hcs, htake⟩
    · have hr' := run_append_nil (P := Tryd.prog) w 29 ty 5 i0 (.int .u8 0) Tryd.underlying29 hi hz0 ⟨b, 0, none⟩ 1 1 (By [y]) (by rw [hz1]; rfl) hnews (by omega) (by omega) (by rw [hz2]; omega)
      rw [hr] at hr'
      injection hr' with e1 e2
      refine .inr ⟨by rw [e2]; exact (Below.refl _ _).drew.alloc (Nat.le_refl _) _, fun k hk => ?_⟩
      rw [e1] at hk
      injection hk with hk
      have : w.heap.size = k := hk
      omega
    · by_cases hroom : l.length + 1 ≤ cap
      · have hr' := run_append_room (P := Tryd.prog) w 29 ty 5 i0 Tryd.underlying29 hi g l.length cap cur hg ⟨b, 0, none⟩ 1 1 (By [y]) (by rw [hz1]; rfl) hnews (By_one [y]) hroom (by rw [hz1]; simp only [By_length, List.length_cons, List.length_nil]; omega)
        rw [hr] at hr'
        injection hr' with e1 e2
        exact .inl ⟨by rw [e1]; rfl, h3⟩
      · have holds : ∀ j u, (By l)[j]? = some u → w.cell? ((⟨g, 0, none⟩ : Addr).add j) = some u := World.ownsRow.cells (show w.ownsRow B 5 1 _ _ _ from hown) (g := g) rfl
        have hr' := run_append_grow (P := Tryd.prog) w 29 ty 5 i0 (.int .u8 0) Tryd.underlying29 hi hz0 ⟨g, 0, none⟩ l.length cap (By l) (by rw [hz1]; simp [By]) holds ⟨b, 0, none⟩ 1 1 (By [y]) (by rw [hz1]; rfl) hnews (by omega) (by omega) (by rw [hz2]; exact growslice_fits (by omega) (by omega))
        rw [hr] at hr'
        injection hr' with e1 e2
        refine .inr ⟨by rw [e2]; exact (Below.refl _ _).drew.alloc (Nat.le_refl _) _, fun k hk => ?_⟩
        rw [e1] at hk
        injection hk with hk
        have : w.heap.size = k := hk
        omega

/-- What has grown: block, length, room. -/
def hV (p : Nat × Nat × Nat) : Value := .slice (some ⟨p.1, 0, none⟩) p.2.1 p.2.2
def OwnH (w : World) (B : Nat) (v : Value) (H : List (Nat × Nat × Nat)) : Prop := w.ownsRow B 29 1 v H.length (H.map hV)
set_option maxRecDepth 100000 in
theorem OwnH.nil (w : World) (B : Nat) : OwnH w B (.slice none 0 0) [] := World.ownsRow_nil w B 29 1
set_option maxRecDepth 100000 in
theorem OwnH.go {w w' : World} {B : Nat} {v : Value} {H : List (Nat × Nat × Nat)} (h : OwnH w B v H) (hb : Below w.heap.size w w') : OwnH w' B v H := by
  refine World.ownsRow.kept (row := none) h ⟨hb.os, hb.tape, hb.output, hb.size, fun k hk _ => hb.block k hk⟩ ?_
  cases hv : v.ownBlock with
  | none => exact .inl rfl
  | some k => exact .inr (by simp)
set_option maxRecDepth 100000 in
theorem ownH_ne {w : World} {B g : Nat} {v : Value} {H : List (Nat × Nat × Nat)} {c : Array Value} {t : TypeId} {fz : Nat × Nat} (h : OwnH w B v H) (hg : w.heap[g]? = some (.cells c t fz)) (ht : t ≠ 29) : some g ≠ v.ownBlock := by
  intro e
  rcases h.2 with ⟨rfl, _⟩ | ⟨k, cap, cur, rfl, _, hk, _⟩
  · cases e
  · injection e with e
    have e' : g = k := e
    rw [e', hk] at hg
    injection hg with hg
    injection hg with _ h2 _
    exact ht h2.symm
set_option maxRecDepth 100000 in
/-- A row of slices stays where a row of bytes is grown. -/
theorem rowS_far {w w' : World} {B B' : Nat} {v x : Value} {n : Nat} {vs : List Value} {l : List Int} (h : w.ownsRow B 29 1 v n vs) (hx : OwnB w B' x l) (hg : w.grownBy w' x.ownBlock) : w'.ownsRow B 29 1 v n vs := by
  refine World.ownsRow.kept h hg ?_
  rcases h.2 with ⟨rfl, _⟩ | ⟨k, cap, cur, rfl, _, hk, _⟩
  · exact .inl rfl
  · exact .inr (own_ne hx hk (Ne.symm u8_neS))
set_option maxRecDepth 100000 in
theorem app_grownH {ops : Array Oper} {rest : List Oper} {o : Oper} {a : Act} {Q : Exit → Act → World → Prop} (w : World) (hgd : o.guard = none) (s x : Operand)
    (ho : o.op = .call { callee := .builtin .append, args := #[s, x], argTypes := #[26, 26] }) (B : Nat) (H : List (Nat × Nat × Nat)) (v : Value) (y : Nat × Nat × Nat) (hs : a.eval s = v)
    (hown : OwnH w B v H) (b : Nat) (hx : a.eval x = .slice (some ⟨b, 0, none⟩) 1 1) (hc : w.cell? ⟨b, 0, none⟩ = some (hV y)) (hb : H.length + 1 ≤ 1000000) (hbase : B ≤ w.heap.size)
    (h : ∀ v' w', Hid (OwnH w' B v' (H ++ [y])) → Hid (w.grownBy w' v.ownBlock) → wpList Tryd.prog ops Q rest (a.put o.dst v') w') : wpList Tryd.prog ops Q (o :: rest) a w := by
  obtain ⟨i0, hi, hz0, hz1, hz2⟩ := info_parts infoS
  refine wpList_append_own w hgd s x 26 ho B 29 i0 (.slice none 0 0) 1 24 Tryd.underlying26 hi hz0 hz1 hz2 rfl (by decide) v H.length (H.map hV) hs hown ⟨b, 0, none⟩ 1 1 [hV y] hx rfl
    (fun j u hu => by
      have hj : j = 0 := by
        have := (List.getElem?_eq_some_iff.1 hu).1
        simpa using this
      subst hj
      simp at hu
      subst hu
      simpa [Addr.add_lit] using hc) (fun u hu => by simp at hu; subst hu; rfl) (by unfold maxLen; omega) (by omega) hbase ?_
  intro v' w' h1 h2 _
  refine h v' w' ?_ h2
  unfold OwnH
  rw [List.length_append, List.map_append]
  exact h1
set_option maxRecDepth 100000 in
theorem OwnH.shape {w : World} {B : Nat} {v : Value} {H : List (Nat × Nat × Nat)} (h : OwnH w B v H) (h0 : 0 < H.length) : ∃ g cap, v = .slice (some ⟨g, 0, none⟩) H.length cap ∧ B ≤ g ∧ H.length ≤ cap ∧ g < w.heap.size ∧ ∀ t x, H[t]? = some x → w.cell? ⟨g, t, none⟩ = some (hV x) := by
  rcases h.2 with ⟨rfl, h1⟩ | ⟨g, cap, cur, rfl, hg, hh, hnc, hm, hs, ht⟩
  · omega
  · refine ⟨g, cap, rfl, hg, hnc, lt_some hh, fun t x hx => ?_⟩
    have hlt := (List.getElem?_eq_some_iff.1 hx).1
    have := World.ownsRow.cellAt h t (by omega)
    rw [this]
    simp [List.getElem?_map, hx]
end Go.Proofs.YtoifjcliepongaaDoor
