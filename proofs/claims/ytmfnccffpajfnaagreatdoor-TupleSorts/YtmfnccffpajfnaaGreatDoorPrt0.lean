/- tuple.Print of small Ints and Lists. -/
import Derived.Test.YtmfnccffpajfnaaGreatDoorEnc5
import Derived.Lib.AppendStr
import Derived.Handy
import Derived.Deep.RegionHeld3
namespace Go.Proofs.YtmfnccffpajfnaaGreatDoor
open Go.RowKit

set_option maxRecDepth 100000 in
theorem strCells_By (s : ByteArray) : Lib.strCells s = By (bL s) := by
  simp [Lib.strCells, By, bL]
set_option maxRecDepth 100000 in
/-- 'append(out, s...)', s a text: where the new bytes lie. -/
theorem run_app_str (w : World) (B : Nat) (ty : TypeId) (v : Value) (l : List Int) (s : ByteArray) (hown : OwnB w B v l) (hb : l.length + s.size ≤ 140737488355328) (hB : B ≤ w.heap.size) :
    ∃ v' w', (Builtin.append_ #[25, 9] ty #[v, .string s]).run Tryz.prog w = .ok v' w' ∧ OwnB w' B v' (l ++ bL s) ∧ Gr w v w' v' := by
  obtain ⟨i0, hi, hz0, hz1, hz2⟩ := info_parts info5
  obtain ⟨v', w', hr, h2, h3, h4⟩ := Lib.run_append_own_string (P := Tryz.prog) w B 25 9 ty 5 i0 Tryz.underlying25 Tryz.underlying9 hi hz0 hz1 hz2 v l.length (By l) hown s (by unfold maxLen; omega) hb hB
  refine ⟨v', w', hr, ?_, h3, ?_⟩
  · unfold OwnB
    rw [By_append, List.length_append, bL_length, ← strCells_By]
    exact h2
  · rcases hown.2 with ⟨rfl, h0⟩ | ⟨g, cap, cur, rfl, hbg, hg, hnc, hcm, hcs, htake⟩
    · by_cases hm : s.size = 0
      · exact .inl (by rw [h4.2 ⟨rfl, hm⟩])
      · have hr' := run_append_nil_string (P := Tryz.prog) w 25 9 ty 5 i0 (.int .u8 0) Tryz.underlying25 Tryz.underlying9 hi hz0 s (by omega) (by omega) (by rw [hz2]; omega)
        rw [hr] at hr'
        injection hr' with e1 e2
        exact .inr ⟨w.heap.size, by rw [e1]; rfl, Nat.le_refl _⟩
    · by_cases hroom : l.length + s.size ≤ cap
      · have hr' := Lib.run_append_room_string (P := Tryz.prog) w 25 9 ty 5 i0 Tryz.underlying25 Tryz.underlying9 hi hz1 g l.length cap cur hg s hroom (by omega)
        rw [hr] at hr'
        injection hr' with e1 e2
        exact .inl (by rw [e1]; rfl)
      · have holds : ∀ j u, (By l)[j]? = some u → w.cell? ((⟨g, 0, none⟩ : Addr).add j) = some u := World.ownsRow.cells (show w.ownsRow B 5 1 _ _ _ from hown) (g := g) rfl
        have hr' := Lib.run_append_grow_string (P := Tryz.prog) w 25 9 ty 5 i0 (.int .u8 0) Tryz.underlying25 Tryz.underlying9 hi hz0 ⟨g, 0, none⟩ l.length cap (By l) (by rw [hz1]; simp [By]) holds s (by omega) (by omega) (by rw [hz2]; exact growslice_fits (by omega) (by omega))
        rw [hr] at hr'
        injection hr' with e1 e2
        exact .inr ⟨w.heap.size, by rw [e1]; rfl, Nat.le_refl _⟩
set_option maxRecDepth 100000 in
theorem app_str {ops : Array Oper} {rest : List Oper} {o : Oper} {a : Act} {Q : Exit → Act → World → Prop} (w : World) (hgd : o.guard = none) (s x : Operand)
    (ho : o.op = .call { callee := .builtin .append, args := #[s, x], argTypes := #[25, 9] }) (B : Nat) (l : List Int) (v : Value) (t : ByteArray) (hs : a.eval s = v) (hx : a.eval x = .string t)
    (hown : OwnB w B v l) (hb : l.length + t.size ≤ 140737488355328) (hbase : B ≤ w.heap.size)
    (h : ∀ v' w', OwnB w' B v' (l ++ bL t) → Gr w v w' v' → wpList Tryz.prog ops Q rest (a.put o.dst v') w') : wpList Tryz.prog ops Q (o :: rest) a w := by
  obtain ⟨v', w', hr, h1, h2⟩ := run_app_str w B o.type v l t hown hb hbase
  refine wpList_plain hgd fun K hK => ?_
  unfold Oper.wp execOp
  simp only [ho, resolve, invoke, builtin, Sem.run_bind, Sem.run_pure, Result.andThen_ok, List.map_toArray, List.map_cons, List.map_nil, hs, hx, hr]
  exact hK _ _ (h v' w' h1 h2)

set_option maxRecDepth 100000 in
theorem small_1 (w : World) : Calls Tryz.prog 93 #[.int .i64 1] w fun e w' => e = .returned (.string ⟨#[49]⟩) ∧ w' = w := by
  go_enter Tryz.func93, Tryz.ntmps93
  go_wp2
  go_ret
  exact ⟨by kernel_rfl, rfl⟩
set_option maxRecDepth 100000 in
theorem appUint_1 (v : Value) (B : Nat) (l : List Int) (w : World) (hw : OwnB w B v l) (hB : B ≤ w.heap.size) (hl : l.length + 21 ≤ 140737488355328) :
    Calls Tryz.prog 79 #[v, .int .u64 1, .int .i64 10] w fun e w' => ∃ v', e = .returned v' ∧ OwnB w' B v' (l ++ [49]) ∧ Gr w v w' v' := by
  have Hw := hidden hw
  clear hw
  go_enter Tryz.func79, Tryz.ntmps79
  go_wp2_with (first | (go_at_call 93; refine same_call (small_1 _) ?_) | (at_builtin; refine app_str _ rfl _ _ rfl B l _ ⟨#[49]⟩ rfl rfl Hw.out (by have : (⟨#[49]⟩ : ByteArray).size = 1 := rfl; omega) hB ?_))
  intro v1 w1 ho1 hg1
  go_wp2
  go_ret
  exact ⟨_, rfl, ho1, hg1⟩
set_option maxRecDepth 100000 in
theorem appInt_1 (v : Value) (B : Nat) (l : List Int) (w : World) (hw : OwnB w B v l) (hB : B ≤ w.heap.size) (hl : l.length + 21 ≤ 140737488355328) :
    Calls Tryz.prog 47 #[v, .int .i64 1, .int .i64 10] w fun e w' => ∃ v', e = .returned v' ∧ OwnB w' B v' (l ++ [49]) ∧ Gr w v w' v' := by
  have Hw := hidden hw
  clear hw
  go_enter Tryz.func47, Tryz.ntmps47
  go_wp2_with (first | (go_at_call 79; refine (appUint_1 v B l w Hw.out hB hl).mono ?_; rintro e w1 ⟨v1, rfl, ho1, hg1⟩) | go_in)
  go_ret
  exact ⟨v1, rfl, ho1, hg1⟩
end Go.Proofs.YtmfnccffpajfnaaGreatDoor
