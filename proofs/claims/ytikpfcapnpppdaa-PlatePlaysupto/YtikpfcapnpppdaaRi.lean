/- The document's device: Write. -/
import Derived.Test.YtikpfcapnpppdaaRh
import Derived.Test.YtikpfcapnpppdaaPm5
namespace Go.Proofs.Ytikpfcapnpppdaa
open Go.RowKit

set_option maxRecDepth 100000 in
theorem infoLo : (Try.prog.info? 74).map (fun i => (i.zero, i.size, i.bytes)) = some (some (.agg #[.int .i64 0, .slice none 0 0]), 2, 32) := by kernel_rfl

set_option maxRecDepth 100000 in
/-- append of bytes to nil, as one step of a region that draws. -/
theorem step_app_new {ops : Array Oper} {o : Oper} {a : Act} {w : World} {K : Act → World → Prop} {Q : Exit → Act → World → Prop} {E : Prop}
    (hgd : o.guard = none) (x : Operand) (ho : o.op = .call { callee := .builtin .append, args := #[.const (.slice none 0 0), x], argTypes := #[35, 35] })
    (ad : Addr) (m c : Nat) (l : List Int) (hx : a.eval x = .slice (some ad) m c) (hl : l.length = m) (hm : 0 < m) (hb : m ≤ 140737488355328) (hc : ∀ j v, (By l)[j]? = some v → w.cell? (ad.add j) = some v)
    (h : ∀ g c' w', w'.ownsRow w.heap.size 5 1 (.slice (some ⟨g, 0, none⟩) m c') m (By l) → w.grownBy w' none → K (a.put o.dst (.slice (some ⟨g, 0, none⟩) m c')) w') :
    if Region.wanted o (yielded ops a.tmps) = true then Oper.wp Try.prog o a w K Q else E := by
  have hw : Region.wanted o (yielded ops a.tmps) = true := by simp [Region.wanted, hgd]
  rw [if_pos hw]
  obtain ⟨i0, hi, hz0, hz1, hz2⟩ := info_parts info5
  obtain ⟨v', w', hr, h2, h3, _⟩ := run_append_own (P := Try.prog) w w.heap.size 35 o.type 5 i0 (.int .u8 0) 1 1 Try.underlying35 hi hz0 hz1 hz2 rfl (by decide) (.slice none 0 0) 0 [] (World.ownsRow_nil w _ 5 1) ad m c (By l) (by rw [By_length]; omega) hc (By_one l) (by unfold maxLen; omega) (by omega) (Nat.le_refl _)
  rw [Nat.zero_add, List.nil_append] at h2
  have he : a.eval (.const (.slice none 0 0)) = .slice none 0 0 := rfl
  unfold Oper.wp
  simp [execOp, ho, resolve, invoke, builtin, hx, he, hr, Result.andThen]
  rcases h2.2 with ⟨_, h0⟩ | ⟨g, c', cur, rfl, _⟩
  · omega
  · exact h g c' w' h2 h3
set_option maxRecDepth 100000 in
/-- append of a loose write, as one step of a region that draws. -/
theorem step_app_loose {ops : Array Oper} {o : Oper} {a : Act} {w : World} {K : Act → World → Prop} {Q : Exit → Act → World → Prop} {E : Prop}
    (hgd : o.guard = none) (s x : Operand) (ho : o.op = .call { callee := .builtin .append, args := #[s, x], argTypes := #[55, 55] }) (v : Value) (n : Nat) (xs : List Value) (hs : a.eval s = v)
    (hown : w.ownsRow 0 74 2 v n xs) (g q p c : Nat) (k : Int) (hx : a.eval x = .slice (some ⟨g, 0, none⟩) 1 1) (c0 : w.cell? ⟨g, 0, none⟩ = some (.int .i64 k)) (c1 : w.cell? ⟨g, 1, none⟩ = some (.slice (some ⟨q, 0, none⟩) p c)) (hb : n < 4398046511103)
    (h : ∀ g' c' w', w'.ownsRow 0 74 2 (.slice (some ⟨g', 0, none⟩) (n + 1) c') (n + 1) (xs ++ [.int .i64 k, .slice (some ⟨q, 0, none⟩) p c]) → w.grownBy w' v.ownBlock → (some g' = v.ownBlock ∨ g' = w.heap.size) → K (a.put o.dst (.slice (some ⟨g', 0, none⟩) (n + 1) c')) w') :
    if Region.wanted o (yielded ops a.tmps) = true then Oper.wp Try.prog o a w K Q else E := by
  have hw : Region.wanted o (yielded ops a.tmps) = true := by simp [Region.wanted, hgd]
  rw [if_pos hw]
  obtain ⟨i0, hi, hz0, hz1, hz2⟩ := info_parts infoLo
  obtain ⟨v', w', hr, h2, h3, h4, h5⟩ := run_append_own_at (P := Try.prog) w 0 55 o.type 74 i0 _ 2 32 Try.underlying55 hi hz0 hz1 hz2 rfl (by decide) v n xs hown ⟨g, 0, none⟩ 1 1 [.int .i64 k, .slice (some ⟨q, 0, none⟩) p c] rfl
    (fun j u hu => by
      match j, hu with
      | 0, hu => simp at hu; subst hu; simpa [Addr.add] using c0
      | 1, hu => simp at hu; subst hu; simpa [Addr.add] using c1
      | j + 2, hu => simp at hu) (fun u hu => by simp at hu; rcases hu with rfl | rfl <;> rfl) (by unfold maxLen; omega) (by omega) (Nat.zero_le _)
  unfold Oper.wp execOp
  simp only [ho, resolve, invoke, builtin, Sem.run_bind, Sem.run_pure, Result.andThen_ok, List.map_toArray, List.map_cons, List.map_nil, hs, hx, hr]
  rcases h2.2 with ⟨_, h0⟩ | ⟨g', c', cur, rfl, _⟩
  · omega
  · refine h g' c' w' h2 h3 ?_
    rcases h5 with h5 | h5
    · exact .inl h5
    · injection h5 with h5
      exact .inr h5

set_option maxRecDepth 100000 in
theorem rWrite_no (w : World) (F : Nat → Prop) (a : Nat) (r : R) (n : Int) (ab : Option Addr) (m cb : Nat) (h : Rv w F a r) (e : Int) (he : refR r n = e) (h0 : e ≠ 0) : Calls Try.prog 29 #[.pointer (some ⟨a, 0, none⟩), .int .i64 n, .slice ab m cb] w fun e' w' => e' = .returned (.int .i64 e) ∧ w' = w := by
  obtain ⟨vL, vW, vK, qs, hc, hf, hr, ha⟩ := h.c
  obtain ⟨ao, c, hv, _⟩ := own_val hr.oL
  have c3 : w.cell? ⟨a, 3, none⟩ = some (.bool r.down) := hc 3
  have c1 : w.cell? ⟨a, 1, none⟩ = some (.slice ao r.L.length c) := by rw [← hv]; exact hc 1
  clear hc hf hr ha h hv
  unfold refR at he
  generalize hD : r.down = dn at *
  generalize r.L.length = ps at *
  clear hD
  cases dn
  · simp only [Bool.false_eq_true, if_false] at he
    by_cases h1 : n < 0
    · rw [if_pos (.inl h1)] at he
      subst he
      go_enter Try.func29, Try.ntmps29
      go_wp2
      go_ret
      exact ⟨rfl, rfl⟩
    · by_cases h2 : (ps : Int) ≤ n
      · rw [if_pos (.inr h2)] at he
        subst he
        go_enter Try.func29, Try.ntmps29
        go_wp2
        go_ret
        exact ⟨rfl, rfl⟩
      · rw [if_neg (fun h => h.elim h1 h2)] at he
        exact absurd he.symm h0
  · simp only [if_true] at he
    subst he
    go_enter Try.func29, Try.ntmps29
    go_wp2
    go_ret
    exact ⟨rfl, rfl⟩
set_option maxRecDepth 100000 in
theorem rWrite_size (w : World) (F : Nat → Prop) (a : Nat) (r : R) (n : Nat) (ab : Option Addr) (m cb : Nat) (h : Rv w F a r) (hd : r.down = false) (hn : n < r.L.length) (hm : m ≠ r.page) : Calls Try.prog 29 #[.pointer (some ⟨a, 0, none⟩), .int .i64 (n : Int), .slice ab m cb] w fun e' w' => e' = .returned (.int .i64 31) ∧ w' = w := by
  obtain ⟨vL, vW, vK, qs, hc, hf, hr, ha⟩ := h.c
  obtain ⟨ao, c, hv, _⟩ := own_val hr.oL
  have c3 : w.cell? ⟨a, 3, none⟩ = some (.bool r.down) := hc 3
  rw [hd] at c3
  have c1 : w.cell? ⟨a, 1, none⟩ = some (.slice ao r.L.length c) := by rw [← hv]; exact hc 1
  have c0 : w.cell? ⟨a, 0, none⟩ = some (.int .i64 r.page) := hc 0
  have hni : ¬ ((n : Int) < 0) := by omega
  have hnl : ¬ ((r.L.length : Int) ≤ (n : Int)) := by omega
  clear hc hf hr ha h hv hn
  go_enter Try.func29, Try.ntmps29
  go_wp2
  go_ret
  exact ⟨rfl, rfl⟩
end Go.Proofs.Ytikpfcapnpppdaa
