/- row.set and row.least. -/
import Derived.Test.YtedgpcckbdnijaaDoorUc
import Derived.Shelf.Spec.TrailingZeros
namespace Go.Proofs.YtedgpcckbdnijaaDoor
open Go.RowKit Go.Maps

set_option maxRecDepth 100000 in
theorem wset_eq (W : Nat → Nat) (p : Nat) (on : Bool) : wset W p on = fun i => if i = p / 64 then (if on then wOr (W (p / 64)) (p % 64) else wNot (W (p / 64)) (p % 64)) else W i := by
  funext i
  unfold wset
  by_cases e : i = p / 64
  · rw [if_pos e, if_pos e, e]
  · rw [if_neg e, if_neg e]
set_option maxRecDepth 100000 in
theorem wrap_pow (k : Nat) (hk : k < 64) : IntKind.u64.wrap ((2 : Int) ^ k) = ((2 ^ k : Nat) : Int) := by
  have := pow_lt64 hk
  rw [show ((2 : Int) ^ k) = ((2 ^ k : Nat) : Int) by simp, IntKind.wrap_u64]
  generalize 2 ^ k = z at *
  omega
set_option maxRecDepth 100000 in
theorem Lb.drew {w : World} {b m : Nat} {W : Nat → Nat} {mv : Value} {last : Int} (h : Lb w b m W mv last) (q : Nat) : Lb (w.drewN q) b m W mv last := h
set_option maxRecDepth 100000 in
set_option maxHeartbeats 1000000 in
theorem rset_any {w : World} {b m : Nat} {W : Nat → Nat} {mv : Value} {last : Int} (h : Lb w b m W mv last) (hW : Wd W) (p : Nat) (hp : p < 65536) (on : Bool) :
    Calls Tryd.prog 55 #[.pointer (some ⟨b, 1, none⟩), .int .i64 (p : Int), .bool on] w fun e u => e = .returned (.tuple #[]) ∧ Hid (Lb u b m (wset W p on) mv last ∧ Cf (· = b) w u) := by
  have hi : p / 64 < 1024 := by omega
  have hk : p % 64 < 64 := by omega
  have hsh := wrap_pow (p % 64) hk
  have hc := h.cw (p / 64) hi
  have hf := h.fz (1 + p / 64)
  have HL := hidden h
  have HX := hidden (hW (p / 64))
  rw [wset_eq]
  clear h hW
  cases on with
  | true =>
    simp only [if_true]
    have hb := bits_wOr (W (p / 64)) (p % 64) HX.out hk
    generalize wOr (W (p / 64)) (p % 64) = y at hb ⊢
    go_enter Tryd.func55, Tryd.ntmps55
    go_wp2_with fail
    go_quiet (fail)
    rw [hsh]
    have HF : ∀ q, Hid (Lb ((w.drewN q).setCell ⟨b, 1 + p / 64, none⟩ (.int .u64 (y : Int))) b m (fun i => if i = p / 64 then y else W i) mv last ∧ Cf (· = b) w ((w.drewN q).setCell ⟨b, 1 + p / 64, none⟩ (.int .u64 (y : Int)))) := fun q => hidden ⟨(HL.out.drew q).setw _ _ hi, (Cf.drew _ w q).go (Cf.setCell (F := (· = b)) _ (p := ⟨b, 1 + p / 64, none⟩) rfl _)⟩
    generalize W (p / 64) = x at *
    generalize ((2 ^ (p % 64) : Nat) : Int) = z at *
    go_wp2_with fail
    go_end0
    exact ⟨rfl, HF _⟩
  | false =>
    simp only [Bool.false_eq_true, if_false]
    have hb := bits_wNot (W (p / 64)) (p % 64)
    generalize wNot (W (p / 64)) (p % 64) = y at hb ⊢
    go_enter Tryd.func55, Tryd.ntmps55
    go_wp2_with fail
    go_quiet (fail)
    rw [hsh]
    have HF : ∀ q, Hid (Lb ((w.drewN q).setCell ⟨b, 1 + p / 64, none⟩ (.int .u64 (y : Int))) b m (fun i => if i = p / 64 then y else W i) mv last ∧ Cf (· = b) w ((w.drewN q).setCell ⟨b, 1 + p / 64, none⟩ (.int .u64 (y : Int)))) := fun q => hidden ⟨(HL.out.drew q).setw _ _ hi, (Cf.drew _ w q).go (Cf.setCell (F := (· = b)) _ (p := ⟨b, 1 + p / 64, none⟩) rfl _)⟩
    generalize W (p / 64) = x at *
    generalize ((2 ^ (p % 64) : Nat) : Int) = z at *
    go_wp2_with fail
    go_end0
    exact ⟨rfl, HF _⟩
/-- The table that math/bits keeps. -/
def Tz (w : World) : Prop := TabAt 0 Lib.deBruijn64tab w
set_option maxRecDepth 100000 in
theorem tz_core (x k idx : Nat) (w : World) (hx0 : ((x : Int) == 0) = false)
    (key : IntKind.u64.wrap (bits BinOp.and IntKind.u64 (x : Int) (IntKind.u64.wrap (-(x : Int))) * 285870213051353865) / 288230376151711744 = (idx : Int))
    (hi : idx < 64) (hk : k < 64) (hcell : w.cell? ⟨0, idx, none⟩ = some (.int .u8 k)) :
    Calls Tryd.prog 64 #[.int .u64 x] w fun e w' => e = .returned (.int .i64 k) ∧ w' = w := by
  go_enter Tryd.func64, Tryd.ntmps64
  go_wp2_with (simp only [key])
  go_ret
  exact ⟨rfl, rfl⟩
set_option maxRecDepth 100000 in
theorem tz_any (x : Nat) (hx0 : x ≠ 0) (hx : x < 18446744073709551616) (w : World) (hT : Tz w) :
    Calls Tryd.prog 64 #[.int .u64 x] w fun e w' => e = .returned (.int .i64 (Lib.ctz 64 x)) ∧ w' = w := by
  obtain ⟨hlow, hk⟩ := Lib.lowest_bit 64 x hx0 hx
  obtain ⟨hi, htab⟩ := Lib.deBruijn64_at _ hk
  have hcell := hT _ hi
  rw [htab] at hcell
  exact tz_core x _ _ w (by simp; omega) (tz64_key x _ hx hx0 hlow) hi hk hcell
/-- The words as one value. -/
def wsV (W : Nat → Nat) : Array Value := ((List.range 1024).map (fun i => Value.int .u64 (W i : Int))).toArray
set_option maxRecDepth 100000 in
theorem wsV_get (W : Nat → Nat) (i : Nat) (hi : i < 1024) : (wsV W)[i]? = some (.int .u64 (W i : Int)) := by
  unfold wsV
  rw [List.getElem?_toArray, List.getElem?_map, List.getElem?_range hi]
  rfl
set_option maxRecDepth 100000 in
theorem wsV_size (W : Nat → Nat) : (wsV W).size = 1024 := by
  unfold wsV
  rw [List.size_toArray, List.length_map, List.length_range]
set_option maxRecDepth 100000 in
theorem ws_load {w : World} {b m : Nat} {W : Nat → Nat} {mv : Value} {last : Int} (h : Lb w b m W mv last) : (Instr.loadAt 58 (.pointer (some ⟨b, 1, none⟩))).run Tryd.prog w = .ok (.agg (wsV W)) w := by
  have h1 : (isAgg 58).run Tryd.prog w = .ok true w := by kernel_rfl
  have h2 : (sizeOf 58).run Tryd.prog w = .ok 1024 w := by kernel_rfl
  have h3 : (Instr.sureAddr (.pointer (some ⟨b, 1, none⟩))).run Tryd.prog w = .ok ⟨b, 1, none⟩ w := rfl
  have h4 := run_loadCells (P := Tryd.prog) w ⟨b, 1, none⟩ 1024 (fun i => Value.int .u64 (W i : Int)) (fun j hj => by rw [Addr.add_lit]; exact h.cw j hj)
  unfold Instr.loadAt loadVar wsV
  simp only [Sem.run_bind, h3, h1, h2, h4, Result.andThen_ok, if_true, Sem.run_pure]
set_option maxRecDepth 100000 in
theorem ws_index (W : Nat → Nat) (i : Nat) (hi : i < 1024) (w : World) : (Instr.index 58 (.agg (wsV W)) (.int .i64 (i : Int))).run Tryd.prog w = .ok (.int .u64 (W i : Int)) w := by
  have hu : (underlying 58).run Tryd.prog w = .ok (.array 1024 57) w := by kernel_rfl
  have h2 : (sizeOf 57).run Tryd.prog w = .ok 1 w := by kernel_rfl
  have hg := wsV_get W i hi
  have c1 : 0 ≤ (i : Int) ∧ (i : Int) < ((1024 : Nat) : Int) := by omega
  unfold Instr.index part
  simp [Sem.run_bind, asIntOf, hu, h2, Result.andThen_ok, Sem.run_pure, c1, hg, hi]
set_option maxRecDepth 100000 in
theorem wpList_load_v {P : Program} {w : World} {ops : Array Oper} {rest : List Oper} {o : Oper} {a : Act} {Q : Exit → Act → World → Prop} (hg : o.guard = none) (x : Operand) (t : TypeId) (hop : o.op = Op.load t x) (y v : Value) (hx : a.eval x = y) (hr : (Instr.loadAt t y).run P w = .ok v w)
    (h : wpList P ops Q rest (a.put o.dst v) w) : wpList P ops Q (o :: rest) a w := by
  refine wpList_plain hg fun K hK => ?_
  unfold Oper.wp
  simp [execOp, hop, hx, hr, Result.andThen]
  exact hK _ _ h
set_option maxRecDepth 100000 in
theorem wpList_index_v {P : Program} {w : World} {ops : Array Oper} {rest : List Oper} {o : Oper} {a : Act} {Q : Exit → Act → World → Prop} (hg : o.guard = none) (x i : Operand) (t : TypeId) (hop : o.op = Op.index t x i) (y z v : Value) (hx : a.eval x = y) (hi : a.eval i = z) (hr : (Instr.index t y z).run P w = .ok v w)
    (h : wpList P ops Q rest (a.put o.dst v) w) : wpList P ops Q (o :: rest) a w := by
  refine wpList_plain hg fun K hK => ?_
  unfold Oper.wp
  simp [execOp, hop, hx, hi, hr, Result.andThen]
  exact hK _ _ h
set_option maxRecDepth 100000 in
set_option maxHeartbeats 1000000 in
theorem least_any {w : World} {b m : Nat} {W : Nat → Nat} {mv : Value} {last : Int} (h : Lb w b m W mv last) (hW : Wd W) (hT : Tz w) :
    Calls Tryd.prog 44 #[.pointer (some ⟨b, 1, none⟩)] w fun e u => ∃ (p : Nat) (ok : Bool), e = .returned (.tuple #[.int .i64 (p : Int), .bool ok]) ∧ Hid ((ok = true ∧ p < 65536 ∧ bitOf W p = true ∧ ∀ q, q < p → bitOf W q = false) ∨ (ok = false ∧ p = 0 ∧ ∀ q, q < 65536 → bitOf W q = false)) ∧ u = w := by
  have HLD := hidden (ws_load h)
  have HG := fun i hi => hidden (ws_index W i hi w)
  have HW := hidden hW
  have HT := hidden hT
  clear h hW hT
  generalize wsV W = A at *
  go_enter Tryd.func44, Tryd.ntmps44
  go_wp2_with (refine wpList_load_v rfl _ 58 rfl _ _ rfl HLD.out ?_)
  clear HLD
  go_loopw [4, 5, 10] (fun _ _ i wr => wr = w ∧ ∃ j : Nat, j ≤ 1024 ∧ i = .int .i64 (j : Int) ∧ Hid (∀ k, k < j → W k = 0)) (fun _ _ i _ => 1024 - (RowKit.intOf i).toNat)
  case atStart => exact ⟨rfl, 0, by omega, rfl, hidden (fun k hk => by omega)⟩
  case round =>
    obtain ⟨rfl, j, hj, rfl, HZ⟩ := hrel
    by_cases hlt : j < 1024
    · have hltI : (j : Int) < 1024 := by omega
      have HGJ := HG j hlt
      by_cases hz : W j = 0
      · rw [hz] at HGJ
        go_wp2_with (refine wpList_index_v rfl _ _ 58 rfl _ _ _ rfl rfl HGJ.out ?_)
        go_roundw
        case rel => exact ⟨trivial, j + 1, by omega, by go_num, hidden (fun k hk => by
          by_cases e : k = j
          · rw [e]; exact hz
          · exact HZ.out k (by omega))⟩
        case measure => simp [RowKit.intOf]; omega
      · have hne : ((W j : Int) == 0) = false := by rw [beq_eq_false_iff_ne]; omega
        have HTZ := fun u hu => hidden (tz_any (W j) hz (HW.out j) u hu)
        obtain ⟨c1, c2⟩ := least_bit HW.out hz HZ.out
        have hct := (ctz_bit (W j) hz (HW.out j)).1
        have HFIN : Hid (bitOf W (j * 64 + Lib.ctz 64 (W j)) = true ∧ ∀ q, q < j * 64 + Lib.ctz 64 (W j) → bitOf W q = false) := hidden ⟨c1, c2⟩
        clear c1 c2 hz
        generalize Lib.ctz 64 (W j) = c at *
        generalize W j = x at *
        go_wp2_with (first
          | (refine wpList_index_v rfl _ _ 58 rfl _ _ _ rfl rfl HGJ.out ?_)
          | (go_at_call 64; refine same_call (HTZ _ HT.out).out ?_))
        go_returns
        exact ⟨j * 64 + c, true, by go_num, hidden (.inl ⟨rfl, by omega, HFIN.out⟩), rfl⟩
    · obtain rfl : j = 1024 := by omega
      go_wp2_with fail
      go_returns
      exact ⟨0, false, rfl, hidden (.inr ⟨rfl, rfl, fun q hq => no_bit HZ.out hq⟩), rfl⟩
end Go.Proofs.YtedgpcckbdnijaaDoor
