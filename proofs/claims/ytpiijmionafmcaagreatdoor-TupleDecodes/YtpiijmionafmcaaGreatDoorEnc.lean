/- tuple.Encode: Ints as bytes. -/
import Derived.Test.YtpiijmionafmcaaGreatDoorShelf
import Derived.Test.YtpiijmionafmcaaGreatDoorCheck3
import Derived.Test.YtpiijmionafmcaaGreatDoorCmp
import Derived.Test.YtpiijmionafmcaaGreatDoorFixed
import Derived.Test.YtpiijmionafmcaaGreatDoorOrdered
import Derived.Test.YtpiijmionafmcaaGreatDoorAlike
import Derived.Laws.AppendOwnNone
import Derived.Maps.AppendAt
namespace Go.Proofs.YtpiijmionafmcaaGreatDoor
open Go.RowKit

/-- How many bytes a number needs. -/
def wd (n : Int) : Nat := (Lib.bitLen n.toNat + 7) / 8

set_option maxRecDepth 100000 in
theorem bytesOf_any (n : Int) (w : World) (h0 : 0 ≤ n) (h1 : n ≤ 18446744073709551615) : Calls Tryz.prog 63 #[.int .u64 n] w fun e w' => e = .returned (.int .i64 (wd n)) ∧ w' = w := by
  have hb : Lib.bitLen n.toNat ≤ 64 := Lib.bitLen_le n.toNat 64 (by omega) (by omega)
  have H := hidden (Tryz.bits_Len64 n w h0 h1)
  have e1 : (wd n : Int) = ((Lib.bitLen n.toNat : Int) + 7) / 8 := by unfold wd; omega
  rw [e1]
  generalize Lib.bitLen n.toNat = x at *
  go_enter Tryz.func63, Tryz.ntmps63
  go_wp2_with (go_at_call 86; refine same_call H.out ?_)
  go_ret
  exact ⟨rfl, rfl⟩
set_option maxRecDepth 100000 in
theorem wd_le (n : Int) (h1 : n ≤ 18446744073709551615) : wd n ≤ 8 := by
  have := Lib.bitLen_le n.toNat 64 (by omega) (by omega)
  unfold wd
  omega
set_option maxRecDepth 100000 in
theorem wd_pos (n : Int) (h0 : 0 < n) (h1 : n ≤ 18446744073709551615) : 1 ≤ wd n := by
  have := Lib.bitLen_half n.toNat (by omega) (by omega)
  unfold wd
  omega

/-- What was grown lies where it lay, or in a new block; nothing else has turned. -/
structure Gr (w : World) (v : Value) (w' : World) (v' : Value) : Prop where
  grow : w.grownBy w' v.ownBlock
  own : v'.ownBlock = v.ownBlock ∨ ∃ k, v'.ownBlock = some k ∧ w.heap.size ≤ k
set_option maxRecDepth 100000 in
theorem Gr.ofBelow {w w' : World} (v : Value) (h : Below w.heap.size w w') : Gr w v w' v := ⟨⟨h.os, h.tape, h.output, h.size, fun k hk _ => h.block k hk⟩, .inl rfl⟩
set_option maxRecDepth 100000 in
theorem Gr.refl (w : World) (v : Value) : Gr w v w v := Gr.ofBelow v (Below.refl _ _)
set_option maxRecDepth 100000 in
theorem Gr.alloc (w : World) (v : Value) (o : Obj) : Gr w v (w.alloc o) v := Gr.ofBelow v ((Below.refl _ _).alloc (Nat.le_refl _) o)
set_option maxRecDepth 100000 in
theorem Gr.trans {w w1 w2 : World} {v v1 v2 : Value} (a : Gr w v w1 v1) (b : Gr w1 v1 w2 v2) : Gr w v w2 v2 := by
  have hs := a.grow.size
  refine ⟨⟨b.grow.os.trans a.grow.os, b.grow.tape.trans a.grow.tape, b.grow.output.trans a.grow.output, Nat.le_trans hs b.grow.size, fun k hk hne => ?_⟩, ?_⟩
  · refine (b.grow.block k (Nat.lt_of_lt_of_le hk hs) ?_).trans (a.grow.block k hk hne)
    rcases a.own with h | ⟨k', h, hk'⟩
    · rw [h]; exact hne
    · rw [h]; intro e; cases e; omega
  · rcases b.own with h | ⟨k', h, hk'⟩
    · rcases a.own with h' | ⟨k'', h', hk''⟩
      · exact .inl (h.trans h')
      · exact .inr ⟨k'', h.trans h', hk''⟩
    · exact .inr ⟨k', h, by omega⟩
set_option maxRecDepth 100000 in
theorem Gr.below {w w' : World} {v v' : Value} {B : Nat} {l : List Int} (h : Gr w v w' v') (hown : OwnB w B v l) (hB : B ≤ w.heap.size) : Below B w w' := own_below hown hB h.grow
set_option maxRecDepth 100000 in
theorem Gr.cell {w w' : World} {v v' : Value} (h : Gr w v w' v') (a : Addr) (hlt : a.block < w.heap.size) (hne : some a.block ≠ v.ownBlock) : w'.cell? a = w.cell? a := World.cell?_of_block (h.grow.block a.block hlt hne)

set_option maxRecDepth 100000 in
/-- 'append(out, x...)', out and x each the call's own or nil. -/
theorem app_all {ops : Array Oper} {rest : List Oper} {o : Oper} {a : Act} {Q : Exit → Act → World → Prop} (w : World) (hgd : o.guard = none) (s x : Operand)
    (ho : o.op = .call { callee := .builtin .append, args := #[s, x], argTypes := #[22, 22] }) (B C : Nat) (l news : List Int) (v u : Value) (hs : a.eval s = v) (hx : a.eval x = u)
    (hown : OwnB w B v l) (hu : OwnB w C u news) (hwf : Wf news) (hb : l.length + news.length ≤ 140737488355328) (hbase : B ≤ w.heap.size)
    (h : ∀ v' w', OwnB w' B v' (l ++ news) → Gr w v w' v' → wpList Tryz.prog ops Q rest (a.put o.dst v') w') : wpList Tryz.prog ops Q (o :: rest) a w := by
  obtain ⟨i0, hi, hz0, hz1, hz2⟩ := info_parts info5
  obtain ⟨ao, c, rfl, hsl, _⟩ := hu.sl hwf (by omega)
  have main : ∀ ad : Addr, ao = some ad → (∀ j, j < news.length → w.cell? (ad.add j) = some (.int .u8 (news.getD j 0))) → wpList Tryz.prog ops Q (o :: rest) a w := by
    intro ad had hc
    rw [had] at hx
    refine wpList_append_own_at w hgd s x 22 ho B 5 i0 (.int .u8 0) 1 1 Tryz.underlying22 hi hz0 hz1 hz2 rfl (by decide) v l.length (By l) hs hown ad news.length c (By news) hx (by simp [By])
      (fun j u hu => by obtain ⟨h1, h2⟩ := getElem?_By news j u hu; rw [h2]; exact hc j (by omega)) (By_one news) (by unfold maxLen; omega) (by omega) hbase ?_
    intro v' w' h1 h2 _ h4
    refine h v' w' ?_ ⟨h2, h4.imp id fun e => ⟨_, e, Nat.le_refl _⟩⟩
    unfold OwnB
    rw [By_append, List.length_append]
    exact h1
  rcases hsl.hat with h0 | ⟨b, off, rfl, _, hc⟩
  · cases hu.2 with
    | inl h2 =>
      have e : news = [] := List.length_eq_zero_iff.1 h0
      subst e
      refine wpList_append_own_none hgd s x 22 ho B 5 i0 1 Tryz.underlying22 hi v l.length (By l) hs hown (hx.trans h2.1) (h v w (by simpa using hown) (Gr.refl _ _))
    | inr h2 =>
      obtain ⟨g, cap, cur, e, _⟩ := h2
      simp only [Value.slice.injEq] at e
      exact main _ e.1 (fun j hj => by omega)
  · exact main _ rfl (fun j hj => by rw [show ((⟨b, off, none⟩ : Addr).add j) = ⟨b, off + j, none⟩ from by unfold Addr.add; split <;> simp_all]; exact hc j hj)
set_option maxRecDepth 100000 in
theorem one_own (w : World) (x : Int) : OwnB (w.alloc (.cells #[.int .u8 x] 5)) w.heap.size (.slice (some ⟨w.heap.size, 0, none⟩) 1 1) [x] := by
  exact own_of_heap (l := [x]) (heap_alloc_new _ _) (Nat.le_refl _) (by unfold maxLen; simp)

set_option maxRecDepth 100000 in
/-- ink.Fixed of any number of bytes. -/
theorem fixed_any (n : Int) (k : Nat) (w : World) (h0 : 0 ≤ n) (hk : k ≤ 8) :
    Calls Tryz.prog 47 #[.int .u64 n, .int .i64 k] w fun e w' => ∃ v, e = .returned v ∧ OwnB w' w.heap.size v (fB k n) ∧ Below w.heap.size w w' := by
  by_cases h : k = 0
  · subst h
    refine (fixed_no n 0 w (.inl (by omega))).mono ?_
    rintro e w' ⟨rfl, hw⟩
    rw [hw]
    exact ⟨_, rfl, by simpa [fB] using OwnB.nil w w.heap.size, Below.refl _ _⟩
  · exact fixed_yes n k w h0 (by omega) (by omega)

set_option maxRecDepth 100000 in
theorem not_i64 (n : Int) (h0 : -9223372036854775808 ≤ n) (hn : n < 0) : IntKind.u64.wrap (bits .xor .i64 (-1) n) = -n - 1 := by
  have e : bits .xor .i64 (-1) n = IntKind.i64.wrap ((BitVec.ofInt 64 (-1) ^^^ BitVec.ofInt 64 n).toNat : Int) := rfl
  rw [e, show BitVec.ofInt 64 (-1) = BitVec.allOnes 64 from by decide, BitVec.allOnes_xor, BitVec.toNat_not, BitVec.toNat_ofInt, IntKind.wrap_i64, IntKind.wrap_u64]
  omega
/-- An Int's bytes behind its kind's. -/
def intB (n : Int) : List Int := if n < 0 then (127 - (wd (-n - 1) : Int)) :: fB (wd (-n - 1)) (n % 18446744073709551616) else (128 + (wd n : Int)) :: fB (wd n) n

set_option maxHeartbeats 400000 in
set_option maxRecDepth 100000 in
theorem appendInt_any (n : Int) (v : Value) (B : Nat) (l : List Int) (w : World) (hw : OwnB w B v l) (hB : B ≤ w.heap.size) (h0 : -9223372036854775808 ≤ n) (h1 : n ≤ 9223372036854775807) (hl : l.length + 9 ≤ 140737488355328) : Calls Tryz.prog 46 #[v, .int .i64 n] w fun e w' => ∃ v', e = .returned v' ∧ OwnB w' B v' (l ++ intB n) ∧ Gr w v w' v' := by
  have Hw := hidden hw
  clear hw
  by_cases hn : n < 0
  · have e0 : intB n = (127 - (wd (-n - 1) : Int)) :: fB (wd (-n - 1)) (n % 18446744073709551616) := by unfold intB; rw [if_pos hn]
    rw [e0]
    have hk := wd_le (-n - 1) (by omega)
    have hnot : IntKind.u64.wrap (bits .xor .i64 (-1) n) = -n - 1 := not_i64 n h0 hn
    have Hb := hidden (bytesOf_any (-n - 1) w (by omega) (by omega))
    generalize wd (-n - 1) = k at *
    have hx : wrap64 (127 - (k : Int)) % 256 = 127 - k := by unfold wrap64; omega
    go_enter Tryz.func46, Tryz.ntmps46
    go_wp2_with (first | (go_at_call 63; refine same_call Hb.out ?_) | (at_builtin; refine app_all _ rfl _ _ rfl B w.heap.size l [127 - (k : Int)] _ _ rfl rfl (Hw.out.alloc _) (one_own _ _) (Wf.cons (by omega) Wf.nil) (by simp; omega) (by simp; omega) ?_))
    intro v2 w2 hown2 hb2
    have R2 : Gr w v w2 v2 := (Gr.alloc _ _ _).trans hb2
    have hB2 : B ≤ w2.heap.size := by have := R2.grow.size; omega
    have Ho := hidden hown2
    have hwr : IntKind.u64.wrap n = n % 18446744073709551616 := IntKind.wrap_u64 n
    clear hb2 hown2
    go_wp2_with (first | (go_at_call 47; refine (fixed_any (n % 18446744073709551616) k _ (by omega) hk).mono ?_; rintro e w3 ⟨v3, rfl, hown3, hb3⟩; have Ho3 := hidden (Ho.out.on (Nat.le_refl _) hb3); have Hv3 := hidden hown3; have hB3 : B ≤ w3.heap.size := (by have := hb3.size; omega); clear hown3) | (at_builtin; refine app_all _ rfl _ _ rfl B w2.heap.size (l ++ [127 - (k : Int)]) (fB k (n % 18446744073709551616)) _ _ rfl rfl Ho3.out Hv3.out (fB_wf _ _) (by simp [fB_length]; omega) hB3 ?_))
    intro v4 w4 hown4 hb4
    go_wp2
    go_ret
    exact ⟨_, rfl, by simpa using hown4, R2.trans ((Gr.ofBelow _ hb3).trans hb4)⟩
  · have e0 : intB n = (128 + (wd n : Int)) :: fB (wd n) n := by unfold intB; rw [if_neg (by omega)]
    rw [e0]
    have hk := wd_le n (by omega)
    have Hb := hidden (bytesOf_any n w (by omega) (by omega))
    generalize wd n = k at *
    have hx : wrap64 (128 + (k : Int)) % 256 = 128 + k := by unfold wrap64; omega
    go_enter Tryz.func46, Tryz.ntmps46
    go_wp2_with (first | (go_at_call 63; refine same_call Hb.out ?_) | (at_builtin; refine app_all _ rfl _ _ rfl B w.heap.size l [128 + (k : Int)] _ _ rfl rfl (Hw.out.alloc _) (one_own _ _) (Wf.cons (by omega) Wf.nil) (by simp; omega) (by simp; omega) ?_))
    intro v2 w2 hown2 hb2
    have R2 : Gr w v w2 v2 := (Gr.alloc _ _ _).trans hb2
    have hB2 : B ≤ w2.heap.size := by have := R2.grow.size; omega
    have Ho := hidden hown2
    clear hb2 hown2
    go_wp2_with (first | (go_at_call 47; refine (fixed_any _ k _ (by omega) hk).mono ?_; rintro e w3 ⟨v3, rfl, hown3, hb3⟩; have Ho3 := hidden (Ho.out.on (Nat.le_refl _) hb3); have Hv3 := hidden hown3; have hB3 : B ≤ w3.heap.size := (by have := hb3.size; omega); clear hown3) | (at_builtin; refine app_all _ rfl _ _ rfl B w2.heap.size (l ++ [128 + (k : Int)]) (fB k n) _ _ rfl rfl Ho3.out Hv3.out (fB_wf _ _) (by simp [fB_length]; omega) hB3 ?_))
    intro v4 w4 hown4 hb4
    go_wp2
    go_ret
    exact ⟨_, rfl, by simpa using hown4, R2.trans ((Gr.ofBelow _ hb3).trans hb4)⟩
end Go.Proofs.YtpiijmionafmcaaGreatDoor
