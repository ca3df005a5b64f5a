/- The document's sum and its page of a meta. -/
import Derived.Test.YtoifjcliepongaaDoorMr
import Derived.Test.YtoifjcliepongaaDoorMp
import Derived.Test.YtoifjcliepongaaDoorRefSum
import Derived.Test.YtoifjcliepongaaDoorRefWrites
namespace Go.Proofs.YtoifjcliepongaaDoor
open Go.RowKit

set_option maxRecDepth 100000 in
set_option maxHeartbeats 1000000 in
theorem rSumOf_any (ao : Option Addr) (n cap : Nat) (l : List Int) (w : World) (hs : Sl w ao n cap l) :
    Calls Tryd.prog 32 #[.slice ao n cap] w fun e w' => e = .returned (.int .u32 (sumN [l] : Nat)) ∧ w' = w := by
  have HS := hidden hs
  have HW := hidden hs.wf
  have hlen := hs.hlen
  have hroom := hs.hroom
  have hE : sumN [l] = cr 4294967295 (l.map Int.toNat) ^^^ 4294967295 := by rw [sum_one l hs.wf, Nat.xor_comm]
  rw [hE]
  clear hE hs
  generalize hF : cr 4294967295 (l.map Int.toNat) = F
  have HF := hidden hF
  clear hF
  go_enter Tryd.func32, Tryd.ntmps32
  go_wp2_with fail
  go_loop [3, 4] (fun v i => ∃ k y : Nat, k ≤ n ∧ y < 4294967296 ∧ i = .int .i64 k ∧ v = .int .u32 y ∧ Hid (cr y ((l.drop k).map Int.toNat) = F)) (fun _ i => n - (intOf i).toNat)
  case atStart => exact ⟨0, 4294967295, by omega, by omega, rfl, rfl, HF⟩
  case round =>
    clear HF
    obtain ⟨k, y, hk, hy, rfl, rfl, HK⟩ := hrel
    by_cases hkn : k < n
    · rcases HS.out.hat with h | ⟨b', off', rfl, hbb', hc'⟩
      · omega
      have hcj := hc' k hkn
      have hby := HW.out.getD k
      have ej := HK.out
      rw [drop_cons l k (by omega)] at ej
      obtain ⟨C, hC⟩ := Int.eq_ofNat_of_zero_le hby.1
      rw [hC] at hcj hby ej
      have HEJ : Hid (cr (Sn 8 (y ^^^ C)) ((l.drop (k + 1)).map Int.toNat) = F) := ej
      have hst := step_any y C w hy (by omega)
      have hzl := Sn_lt 8 (xor32 hy (show C < 4294967296 by omega))
      generalize Sn 8 (y ^^^ C) = Z at *
      have HST := hidden hst
      clear hc' ej HK hC hst hlen
      go_wp2_with fail
      refine same_call HST.out ?_
      go_wp2
      go_round
      case rel => exact ⟨k + 1, Z, by omega, hzl, by go_num, rfl, HEJ⟩
      case measure => simp [intOf]; omega
    · have e : y = F := by rw [← HK.out, List.drop_eq_nil_of_le (by omega)]; rfl
      have HE := hidden e
      have hx := u32_xor_nat y 4294967295 hy (by omega)
      have hx2 : bits .xor .u32 (y : Int) 4294967295 = ((y ^^^ 4294967295 : Nat) : Int) := hx
      have HX := hidden hx2
      clear e HK hx hx2
      go_wp2
      go_ret
      exact ⟨ret_int (by rw [← HE.out]; exact HX.out), rfl⟩

set_option maxRecDepth 100000 in
/-- A row of another type is not the one that is grown. -/
theorem own_ne {w : World} {B g : Nat} {v : Value} {l : List Int} {c : Array Value} {t : TypeId} {fz : Nat × Nat} (h : OwnB w B v l) (hg : w.heap[g]? = some (.cells c t fz)) (ht : t ≠ 5) : some g ≠ v.ownBlock := by
  intro e
  rcases h.2 with ⟨rfl, _⟩ | ⟨k, cap, cur, rfl, _, hk, _⟩
  · cases e
  · injection e with e
    have e' : g = k := e
    rw [e', hk] at hg
    injection hg with hg
    injection hg with _ h2 _
    exact ht h2.symm
set_option maxRecDepth 100000 in
theorem row_grown {w w' : World} {B g : Nat} {v : Value} {l : List Int} {c : Array Value} {t : TypeId} {fz : Nat × Nat} (h : OwnB w B v l) (hg : w.heap[g]? = some (.cells c t fz)) (ht : t ≠ 5) (hw : w.grownBy w' v.ownBlock) : w'.heap[g]? = some (.cells c t fz) :=
  (hw.block g (lt_some hg) (own_ne h hg ht)).trans hg
set_option maxRecDepth 100000 in
/-- 'append(out, bytes..)': out grows, and nothing else changes. -/
theorem app_rw {ops : Array Oper} {rest : List Oper} {o : Oper} {a : Act} {Q : Exit → Act → World → Prop} (w : World) (hgd : o.guard = none) (s x : Operand)
    (ho : o.op = .call { callee := .builtin .append, args := #[s, x], argTypes := #[29, 29] }) (B : Nat) (l : List Int) (v : Value) (hs : a.eval s = v)
    (hown : OwnB w B v l) (b off m c : Nat) (news : List Int) (hx : a.eval x = .slice (some ⟨b, off, none⟩) m c) (hsl : Sl w (some ⟨b, off, none⟩) m c news)
    (hb : l.length + m ≤ 140737488355328) (hbase : B ≤ w.heap.size)
    (h : ∀ v' w', Hid (OwnB w' B v' (l ++ news)) → Hid (w.grownBy w' v.ownBlock) → wpList Tryd.prog ops Q rest (a.put o.dst v') w') : wpList Tryd.prog ops Q (o :: rest) a w := by
  obtain ⟨i0, hi, hz0, hz1, hz2⟩ := info_parts info5
  refine wpList_append_own w hgd s x 29 ho B 5 i0 (.int .u8 0) 1 1 Tryd.underlying29 hi hz0 hz1 hz2 rfl (by decide) v l.length (By l) hs hown ⟨b, off, none⟩ m c (By news) hx (by simp [By, hsl.hlen])
    (sl_src5 hsl) (By_one news) (by unfold maxLen; omega) (by omega) hbase ?_
  intro v' w' h1 h2 _
  refine h v' w' ?_ h2
  unfold OwnB
  rw [By_append, List.length_append, hsl.hlen]
  exact h1
set_option maxRecDepth 100000 in
/-- What the document's Fixed hands out. -/
theorem rFixed_row (n x : Int) (w : World) (h0 : 0 ≤ n) (hn : n < 18446744073709551616) (h1 : 1 ≤ x) (h2 : x ≤ 8) :
    Calls Tryd.prog 31 #[.int .u64 n, .int .i64 x] w fun e w' => ∃ b off c, e = .returned (.slice (some ⟨b, off, none⟩) x.toNat c) ∧ Hid (Sl w' (some ⟨b, off, none⟩) x.toNat c (fB x.toNat n)) ∧ Hid (Below w.heap.size w w') := by
  refine (refFixed_yes n x w h0 hn h1 h2).mono ?_
  rintro e w' ⟨v, rfl, ho, hb⟩
  obtain ⟨ao, cap, rfl, hs, _⟩ := ho.sl (fB_wf _ _) (by rw [fB_length]; omega)
  rw [fB_length] at hs ⊢
  rcases hs.hat with h | ⟨b, off, rfl, hlt, hc⟩
  · omega
  · exact ⟨b, off, cap, rfl, hs, hb⟩
/-- The bytes behind the first k of the last five numbers. -/
def e5 (m : Mt) : Nat → List Int
  | 0 => [1, m.en, 0, 0, 69, 83, 80, 76] ++ fB 4 m.pg ++ fB 8 m.tx
  | k + 1 => e5 m k ++ fB 4 (m.nth (3 + k))
set_option maxRecDepth 100000 in
theorem e5_all (m : Mt) (h : m.ok) : e5 m 5 = hdB m := by
  have he := h.en
  have e : fB 1 m.en = [m.en] := by simp [fB]; omega
  simp only [e5, hdB, e, List.append_assoc]
  rfl
set_option maxRecDepth 100000 in
theorem e5_length (m : Mt) : ∀ k, (e5 m k).length = 20 + 4 * k
  | 0 => by simp [e5, fB_length]
  | k + 1 => by rw [e5, List.length_append, e5_length m k, fB_length]; omega
end Go.Proofs.YtoifjcliepongaaDoor
