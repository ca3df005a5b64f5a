/- The chapter's first examples: Decode of seven bytes. -/
import Derived.Test.YtpiijmionafmcaaGreatDoorEnc5
import Derived.Test.YtpiijmionafmcaaGreatDoorReadOrdered
import Derived.Handy
namespace Go.Proofs.YtpiijmionafmcaaGreatDoor
open Go.RowKit

set_option maxRecDepth 100000 in
theorem infoItem : (Tryz.prog.info? 36).map (fun i => (i.zero, i.size, i.bytes)) = some (some (.agg #[.int .i64 0, .int .i64 0, .string ⟨#[]⟩, .slice none 0 0]), 4, 56) := by kernel_rfl

set_option maxRecDepth 100000 in
/-- 'append(l, x)' of one item, l nil or the call's own. -/
theorem app_item {ops : Array Oper} {rest : List Oper} {o : Oper} {a : Act} {Q : Exit → Act → World → Prop} (w : World) (hgd : o.guard = none) (s x : Operand)
    (ho : o.op = .call { callee := .builtin .append, args := #[s, x], argTypes := #[25, 25] }) (B n : Nat) (xs : List Value) (v : Value) (g : Nat) (x0 x1 x2 x3 : Value) (hs : a.eval s = v) (hx : a.eval x = .slice (some ⟨g, 0, none⟩) 1 1)
    (hown : w.ownsRow B 36 4 v n xs) (hg : w.heap[g]? = some (.cells #[x0, x1, x2, x3] 36)) (h1 : ∀ u ∈ [x0, x1, x2, x3], u.oneCell' = true) (hb : (n + 1) * 56 ≤ 140737488355328) (hbase : B ≤ w.heap.size)
    (h : ∀ v' w', w'.ownsRow B 36 4 v' (n + 1) (xs ++ [x0, x1, x2, x3]) → Gr w v w' v' → wpList Tryz.prog ops Q rest (a.put o.dst v') w') : wpList Tryz.prog ops Q (o :: rest) a w := by
  obtain ⟨i0, hi, hz0, hz1, hz2⟩ := info_parts infoItem
  refine wpList_append_own_at w hgd s x 25 ho B 36 i0 _ 4 56 Tryz.underlying25 hi hz0 hz1 hz2 rfl (by decide) v n xs hs hown ⟨g, 0, none⟩ 1 1 [x0, x1, x2, x3] hx (by simp)
    (World.news_of_block hg) h1 (by unfold maxLen; omega) hb hbase ?_
  intro v' w' a1 a2 _ a4
  exact h v' w' a1 ⟨a2, a4.imp id fun e => ⟨_, e, Nat.le_refl _⟩⟩

set_option maxRecDepth 100000 in
/-- One item that is owned reads as it is. -/
theorem own_one {w : World} {B : Nat} {v : Value} {k n : Int} {t : ByteArray} {so : Option Addr} {m c : Nat} {sub : Its} (h : w.ownsRow B 36 4 v 1 [.int .i64 k, .int .i64 n, .string t, .slice so m c]) (hs : SlI w (B ≤ ·) so m c sub)
    (hk : -9223372036854775808 ≤ k ∧ k ≤ 9223372036854775807) (hn : -9223372036854775808 ≤ n ∧ n ≤ 9223372036854775807) (ht : t.size ≤ 140737488355328) : ∃ ao cap, v = .slice ao 1 cap ∧ SlI w (B ≤ ·) ao 1 cap (.cons k n t sub .nil) := by
  rcases h.2 with ⟨_, h0⟩ | ⟨g, cap, cur, rfl, hg, hh, hnc, hm, hz, htk⟩
  · omega
  refine ⟨_, cap, rfl, rfl, hnc, (by intro h; cases h), by omega, ⟨hk, hn, ht, by have := hs.hroom; have := hs.hlen; omega, hs.ok, trivial⟩, .inr ⟨g, 0, rfl, ?_, hg, ?_⟩⟩
  · rcases Nat.lt_or_ge g w.heap.size with hx | hx
    · exact hx
    · rw [Array.getElem?_eq_none hx] at hh; cases hh
  · have hc : ∀ j u, [Value.int .i64 k, Value.int .i64 n, Value.string t, Value.slice so m c][j]? = some u → w.cell? ⟨g, j, none⟩ = some u := by
      intro j u hu
      have := World.ownsRow.cells h (g := g) rfl j u hu
      rwa [show ((⟨g, 0, none⟩ : Addr).add j) = ⟨g, j, none⟩ from by unfold Addr.add; split <;> simp_all] at this
    exact ⟨⟨hc 0 _ rfl, hc 1 _ rfl, hc 2 _ rfl, so, m, c, hc 3 _ rfl, hs.hlen, hs.hcap, hs.hnil, hs.hat⟩, trivial⟩
set_option maxRecDepth 100000 in
/-- Two such items, without Lists. -/
theorem own_two {w : World} {B : Nat} {v : Value} {k n k' n' : Int} {t t' : ByteArray} (h : w.ownsRow B 36 4 v 2 [.int .i64 k, .int .i64 n, .string t, .slice none 0 0, .int .i64 k', .int .i64 n', .string t', .slice none 0 0])
    (hk : -9223372036854775808 ≤ k ∧ k ≤ 9223372036854775807) (hn : -9223372036854775808 ≤ n ∧ n ≤ 9223372036854775807) (ht : t.size ≤ 140737488355328)
    (hk' : -9223372036854775808 ≤ k' ∧ k' ≤ 9223372036854775807) (hn' : -9223372036854775808 ≤ n' ∧ n' ≤ 9223372036854775807) (ht' : t'.size ≤ 140737488355328) :
    ∃ ao cap, v = .slice ao 2 cap ∧ SlI w (B ≤ ·) ao 2 cap (.cons k n t .nil (.cons k' n' t' .nil .nil)) := by
  rcases h.2 with ⟨_, h0⟩ | ⟨g, cap, cur, rfl, hg, hh, hnc, hm, hz, htk⟩
  · omega
  refine ⟨_, cap, rfl, rfl, hnc, (by intro h; cases h), by omega, ⟨hk, hn, ht, by simp [Its.len], trivial, hk', hn', ht', by simp [Its.len], trivial, trivial⟩, .inr ⟨g, 0, rfl, ?_, hg, ?_⟩⟩
  · rcases Nat.lt_or_ge g w.heap.size with hx | hx
    · exact hx
    · rw [Array.getElem?_eq_none hx] at hh; cases hh
  · have hc : ∀ j u, [Value.int .i64 k, Value.int .i64 n, Value.string t, Value.slice none 0 0, Value.int .i64 k', Value.int .i64 n', Value.string t', Value.slice none 0 0][j]? = some u → w.cell? ⟨g, j, none⟩ = some u := by
      intro j u hu
      have := World.ownsRow.cells h (g := g) rfl j u hu
      rwa [show ((⟨g, 0, none⟩ : Addr).add j) = ⟨g, j, none⟩ from by unfold Addr.add; split <;> simp_all] at this
    exact ⟨⟨hc 0 _ rfl, hc 1 _ rfl, hc 2 _ rfl, none, 0, 0, hc 3 _ rfl, rfl, Nat.le_refl _, fun _ => rfl, .inl rfl⟩, ⟨hc 4 _ rfl, hc 5 _ rfl, hc 6 _ rfl, none, 0, 0, hc 7 _ rfl, rfl, Nat.le_refl _, fun _ => rfl, .inl rfl⟩, trivial⟩
set_option maxRecDepth 100000 in
theorem SlI.none (w : World) (p : Nat → Prop) : SlI w p Option.none 0 0 .nil := ⟨rfl, Nat.le_refl _, fun _ => rfl, by omega, trivial, .inl rfl⟩

/-- The seven bytes. -/
def b7 : List Int := [23, 19, 129, 1, 23, 0, 0]

set_option maxRecDepth 100000 in
theorem b7_cells {w : World} {ao : Option Addr} {cap : Nat} (hs : Sl w ao 7 cap b7) : ∃ b off, ao = some ⟨b, off, none⟩ ∧ b < w.heap.size ∧ w.cell? ⟨b, off, none⟩ = some (.int .u8 23) ∧ w.cell? ⟨b, off + 1, none⟩ = some (.int .u8 19) ∧ w.cell? ⟨b, off + 2, none⟩ = some (.int .u8 129) ∧ w.cell? ⟨b, off + 3, none⟩ = some (.int .u8 1) ∧
    w.cell? ⟨b, off + 4, none⟩ = some (.int .u8 23) ∧ w.cell? ⟨b, off + 5, none⟩ = some (.int .u8 0) ∧ w.cell? ⟨b, off + 6, none⟩ = some (.int .u8 0) := by
  rcases hs.hat with h | ⟨b, off, rfl, hb, hc⟩
  · omega
  exact ⟨b, off, rfl, hb, hc 0 (by omega), hc 1 (by omega), hc 2 (by omega), hc 3 (by omega), hc 4 (by omega), hc 5 (by omega), hc 6 (by omega)⟩

set_option maxRecDepth 100000 in
theorem readItems_52 (ao : Option Addr) (cap : Nat) (w : World) (hs : Sl w ao 7 cap b7) : Calls Tryz.prog 17 #[.slice ao 7 cap, .int .i64 5, .int .i64 2] w fun e w' => e = .returned (.tuple #[.slice none 0 0, .int .i64 6, .int .i64 0]) ∧ Below w.heap.size w w' := by
  have hcap := hs.hcap
  obtain ⟨b, off, rfl, hb, c0, c1, c2, c3, c4, c5, c6⟩ := b7_cells hs
  clear hs
  go_enter Tryz.func17, Tryz.ntmps17
  go_wp2
  go_rounds 1
  go_returns
  exact ⟨rfl, Below.refl _ _⟩
set_option maxRecDepth 100000 in
/-- Two structs of four cells in blocks of their own, behind a call: what they hold, and that they may be written. -/
theorem cells44 {w w1 : World} {a b c d a' b' c' d' : Value} {ty ty' : Nat} (h : Below ((w.alloc (.cells #[a, b, c, d] ty)).alloc (.cells #[a', b', c', d'] ty')).heap.size ((w.alloc (.cells #[a, b, c, d] ty)).alloc (.cells #[a', b', c', d'] ty')) w1) :
    (w1.cell? ⟨w.heap.size, 0, none⟩ = some a ∧ w1.cell? ⟨w.heap.size, 1, none⟩ = some b ∧ w1.cell? ⟨w.heap.size, 2, none⟩ = some c ∧ w1.cell? ⟨w.heap.size, 3, none⟩ = some d) ∧ (w1.frozen? ⟨w.heap.size, 0, none⟩ = false ∧ w1.frozen? ⟨w.heap.size, 1, none⟩ = false ∧ w1.frozen? ⟨w.heap.size, 2, none⟩ = false ∧ w1.frozen? ⟨w.heap.size, 3, none⟩ = false) ∧
    (w1.cell? ⟨w.heap.size + 1, 0, none⟩ = some a' ∧ w1.cell? ⟨w.heap.size + 1, 1, none⟩ = some b' ∧ w1.cell? ⟨w.heap.size + 1, 2, none⟩ = some c' ∧ w1.cell? ⟨w.heap.size + 1, 3, none⟩ = some d') ∧ (w1.frozen? ⟨w.heap.size + 1, 0, none⟩ = false ∧ w1.frozen? ⟨w.heap.size + 1, 1, none⟩ = false ∧ w1.frozen? ⟨w.heap.size + 1, 2, none⟩ = false ∧ w1.frozen? ⟨w.heap.size + 1, 3, none⟩ = false) := by
  refine ⟨⟨?_, ?_, ?_, ?_⟩, ⟨?_, ?_, ?_, ?_⟩, ⟨?_, ?_, ?_, ?_⟩, ?_, ?_, ?_, ?_⟩
  all_goals (first | (refine (h.frozen (by simp; omega)).trans (by simp)) | (refine (h.frozen (by simp)).trans (by simp)) | (refine (h.cell (by simp; omega)).trans (by simp)) | (refine (h.cell (by simp)).trans (by simp)))

set_option maxRecDepth 100000 in
theorem readItem_51 (ao : Option Addr) (cap : Nat) (w : World) (hs : Sl w ao 7 cap b7) : Calls Tryz.prog 27 #[.slice ao 7 cap, .int .i64 5, .int .i64 7, .int .i64 1] w fun e w' => e = .returned (.tuple #[.agg #[.int .i64 7, .int .i64 0, .string ⟨#[]⟩, .slice none 0 0], .int .i64 6, .int .i64 0]) ∧ Below w.heap.size w w' := by
  have Hs := hidden hs
  clear hs
  go_enter Tryz.func27, Tryz.ntmps27
  go_wp2_with (go_at_call 17; refine (readItems_52 ao cap _ (Hs.out.on (Nat.le_refl _) (by go_grown))).mono ?_; rintro e w1 ⟨rfl, hb1⟩; obtain ⟨⟨k0, k1, k2, k3⟩, ⟨f0, f1, f2, f3⟩, ⟨k0', k1', k2', k3'⟩, f0', f1', f2', f3'⟩ := cells44 hb1; have HB : Hid (Below w.heap.size w w1) := (show Below w.heap.size w _ from by go_grown).trans (hb1.mono (by simp; omega)); have hsz : w.heap.size + 2 ≤ w1.heap.size := (by have := hb1.size; simpa using this); clear hb1)
  refine bodyPost_ret (v := .tuple #[.agg #[.int .i64 7, .int .i64 0, .string ⟨#[]⟩, .slice none 0 0], .int .i64 6, .int .i64 0]) (by simp [results, Tryz.results27, go_sem, k0, k1, k2, k3]; try rfl) rfl ?_
  exact ⟨rfl, ((((HB.out.setCell (by simp) _).setCell (by simp) _).setCell (by simp) _).setCell (by simp) _).setCell (by simp) _⟩

set_option maxRecDepth 100000 in
theorem numberOf_1 (w : World) : Calls Tryz.prog 61 #[.int .u64 1, .bool false] w fun e w' => e = .returned (.int .i64 1) ∧ w' = w := by
  go_enter Tryz.func61, Tryz.ntmps61
  go_wp2
  go_ret
  exact ⟨rfl, rfl⟩
set_option maxRecDepth 100000 in
theorem readInt_2 (ao : Option Addr) (cap : Nat) (w : World) (hs : Sl w ao 7 cap b7) : Calls Tryz.prog 39 #[.slice ao 7 cap, .int .i64 2] w fun e w' => e = .returned (.tuple #[.int .i64 1, .int .i64 4, .int .i64 0]) ∧ w' = w := by
  have HF := hidden (readFixed_ok ao 7 cap b7 3 1 w hs (by omega) (by omega) (by omega) (by omega))
  have Hb := hidden (bytesOf_any 1 w (by omega) (by omega))
  have hr : rdB ((b7.drop (3 : Int).toNat).take (1 : Int).toNat) = 1 := by decide
  have hw1 : (wd 1 : Int) = 1 := by decide
  rw [hr] at HF
  rw [hw1] at Hb
  obtain ⟨b, off, rfl, hb, c0, c1, c2, c3, c4, c5, c6⟩ := b7_cells hs
  have hcap := hs.hcap
  clear hs hr hw1
  go_enter Tryz.func39, Tryz.ntmps39
  go_wp2_with (first | (go_at_call 62; refine same_call HF.out ?_) | (go_at_call 63; refine same_call Hb.out ?_) | (go_at_call 61; refine same_call (numberOf_1 _) ?_))
  go_returns
  exact ⟨rfl, rfl⟩
end Go.Proofs.YtpiijmionafmcaaGreatDoor
