/- slices.Insert and slices.Replace upon nothing. -/
import Derived.Test.YtfcbfombobelmaaGreatDoorJ20
namespace Go.Proofs.YtfcbfombobelmaaGreatDoor
open Go.RowKit

set_option maxRecDepth 100000 in
theorem insB_nil (vo : Option Addr) (vn vc : Nat) (l : List Int) (w : World) (hs : Sl w vo vn vc l) :
    Calls Tryz.prog 161 #[.slice none 0 0, .int .i64 0, .slice vo vn vc] w fun e w' => ∃ v', e = .returned v' ∧ Hid (OwnB w' w.heap.size v' l) ∧ Hid (Below w.heap.size w w') := by
  have hlen := hs.hlen
  have hroom := hs.hroom
  by_cases h0 : vn = 0
  · subst h0
    obtain rfl : l = [] := List.eq_nil_of_length_eq_zero hlen
    clear hs
    go_enter Tryz.func161, Tryz.ntmps161
    go_wp2
    go_ret
    exact ⟨_, rfl, hidden (OwnB.nil _ _), hidden (Below.refl _ _)⟩
  · have h1 : ¬ (vn : Int) = 0 := by omega
    have HS := hidden hs
    clear hs
    go_enter Tryz.func161, Tryz.ntmps161
    go_wp2_with (at_builtin; refine app_sl _ rfl _ _ rfl w.heap.size [] l _ vo vn vc rfl rfl (OwnB.nil _ _) HS.out (by simp; omega) (Nat.le_refl _) ?_; refine Hid.out ?_)
    apply hidden
    intro v1 w1 ho1 g1
    have HO := hidden ho1
    have HB : Hid (Below w.heap.size w w1) := hidden (g1.below (OwnB.nil w w.heap.size) (Nat.le_refl _))
    clear ho1 g1
    go_wp2
    go_ret
    exact ⟨v1, rfl, by simpa using HO, HB⟩
set_option maxRecDepth 100000 in
theorem repB_nil (vo : Option Addr) (vn vc : Nat) (l : List Int) (w : World) (hs : Sl w vo vn vc l) :
    Calls Tryz.prog 134 #[.slice none 0 0, .int .i64 0, .int .i64 0, .slice vo vn vc] w fun e w' => ∃ v', e = .returned v' ∧ Hid (OwnB w' w.heap.size v' l) ∧ Hid (Below w.heap.size w w') := by
  have HI := hidden (insB_nil vo vn vc l w hs)
  clear hs
  go_enter Tryz.func134, Tryz.ntmps134
  go_wp2_with (first | (go_at_call 161; refine HI.out.mono ?_; rintro e w1 ⟨v1, rfl, HO, HB⟩))
  go_ret
  exact ⟨v1, rfl, HO, HB⟩
set_option maxRecDepth 100000 in
theorem OwnN.nil (w : World) (B : Nat) : OwnN w B (.slice none 0 0) [] := World.ownsRow_nil w B 3 1
set_option maxRecDepth 100000 in
/-- 'append(out, x...)' of whole numbers. -/
theorem app_slN {ops : Array Oper} {rest : List Oper} {o : Oper} {a : Act} {Q : Exit → Act → World → Prop} (w : World) (hgd : o.guard = none) (s x : Operand)
    (ho : o.op = .call { callee := .builtin .append, args := #[s, x], argTypes := #[38, 38] }) (B : Nat) (l news : List Nat) (v : Value) (b off n c : Nat) (hs : a.eval s = v) (hx : a.eval x = .slice (some ⟨b, off, none⟩) n c)
    (hown : OwnN w B v l) (hln : news.length = n) (hcs : ∀ i, i < n → w.cell? ⟨b, off + i, none⟩ = some (.int .i64 ((news.getD i 0 : Nat) : Int))) (hb : l.length + n ≤ 1000000) (hbase : B ≤ w.heap.size)
    (h : ∀ v' w', OwnN w' B v' (l ++ news) → Gr w v w' v' → wpList Tryz.prog ops Q rest (a.put o.dst v') w') : wpList Tryz.prog ops Q (o :: rest) a w := by
  obtain ⟨i0, hi, hz0, hz1, hz2⟩ := info_parts infoI
  refine wpList_append_own_at w hgd s x 38 ho B 3 i0 (.int .i64 0) 1 8 Tryz.underlying38 hi hz0 hz1 hz2 rfl (by decide) v l.length (NI l) hs hown ⟨b, off, none⟩ n c (NI news) hx (by simp [NI, hln])
    (fun j u hu => by
      have hj : j < news.length := by have := (List.getElem?_eq_some_iff.1 hu).1; simpa [NI] using this
      have e : u = .int .i64 ((news.getD j 0 : Nat) : Int) := by
        simp [NI, List.getElem?_eq_getElem hj] at hu
        simp [List.getD, List.getElem?_eq_getElem hj, ← hu]
      rw [Addr.add_lit, e]
      exact hcs j (by omega)) (NI_one news) (by unfold maxLen; omega) (by omega) hbase ?_
  intro v' w' h1 h2 _ h4
  refine h v' w' ?_ ⟨h2, h4.imp id fun e => ⟨_, e, Nat.le_refl _⟩⟩
  unfold OwnN
  rw [show NI (l ++ news) = NI l ++ NI news from by simp [NI], List.length_append, hln]
  exact h1
set_option maxRecDepth 100000 in
theorem insN_nil (vo : Option Addr) (vn vc : Nat) (l : List Nat) (w : World) (hs : SlN w vo vn vc l) (hb : vn ≤ 1000000) :
    Calls Tryz.prog 165 #[.slice none 0 0, .int .i64 0, .slice vo vn vc] w fun e w' => ∃ v', e = .returned v' ∧ Hid (OwnN w' w.heap.size v' l) ∧ Hid (Below w.heap.size w w') := by
  have hlen := hs.hlen
  by_cases h0 : vn = 0
  · subst h0
    obtain rfl : l = [] := List.eq_nil_of_length_eq_zero hlen
    clear hs
    go_enter Tryz.func165, Tryz.ntmps165
    go_wp2
    go_ret
    exact ⟨_, rfl, hidden (OwnN.nil _ _), hidden (Below.refl _ _)⟩
  · have h1 : ¬ (vn : Int) = 0 := by omega
    obtain ⟨b, off, rfl, _, hcs⟩ : ∃ b off, vo = some ⟨b, off, none⟩ ∧ b < w.heap.size ∧ ∀ i, i < vn → w.cell? ⟨b, off + i, none⟩ = some (.int .i64 ((l.getD i 0 : Nat) : Int)) := by
      rcases hs.hat with h | h
      · omega
      · exact h
    have HCS := hidden hcs
    have HLN := hidden hlen
    clear hs hcs hlen
    go_enter Tryz.func165, Tryz.ntmps165
    go_wp2_with (at_builtin; refine app_slN _ rfl _ _ rfl w.heap.size [] l _ b off vn vc rfl rfl (OwnN.nil _ _) HLN.out HCS.out (by simp; omega) (Nat.le_refl _) ?_; refine Hid.out ?_)
    apply hidden
    intro v1 w1 ho1 g1
    have HO := hidden ho1
    have HB : Hid (Below w.heap.size w w1) := hidden ⟨g1.grow.os, g1.grow.tape, g1.grow.output, g1.grow.size, fun k hk => g1.grow.block k hk (by simp [Value.ownBlock])⟩
    clear ho1 g1
    go_wp2
    go_ret
    exact ⟨v1, rfl, by simpa using HO, HB⟩
set_option maxRecDepth 100000 in
theorem repN_nil (vo : Option Addr) (vn vc : Nat) (l : List Nat) (w : World) (hs : SlN w vo vn vc l) (hb : vn ≤ 1000000) :
    Calls Tryz.prog 135 #[.slice none 0 0, .int .i64 0, .int .i64 0, .slice vo vn vc] w fun e w' => ∃ v', e = .returned v' ∧ Hid (OwnN w' w.heap.size v' l) ∧ Hid (Below w.heap.size w w') := by
  have HI := hidden (insN_nil vo vn vc l w hs hb)
  clear hs
  go_enter Tryz.func135, Tryz.ntmps135
  go_wp2_with (first | (go_at_call 165; refine HI.out.mono ?_; rintro e w1 ⟨v1, rfl, HO, HB⟩))
  go_ret
  exact ⟨v1, rfl, HO, HB⟩
set_option maxRecDepth 100000 in
/-- start, of the first cell of a page that has none. -/
theorem start_nil (w : World) (a : Nat) (k : Int) (n : Nat) (h : PR w a k n (.slice none 0 0) (.slice none 0 0)) :
    Calls Tryz.prog 132 #[.pointer (some ⟨a, 0, none⟩), .int .i64 0] w fun e w' => e = .returned (.int .i64 0) ∧ w' = w := by
  obtain ⟨c0, c1, c2, c3⟩ := h.cells
  clear h
  go_enter Tryz.func132, Tryz.ntmps132
  go_wp2
  go_ret
  exact ⟨rfl, rfl⟩
end Go.Proofs.YtfcbfombobelmaaGreatDoor
