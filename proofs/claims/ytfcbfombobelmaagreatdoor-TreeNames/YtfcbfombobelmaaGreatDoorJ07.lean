/- cell.MayBe: what it answers. -/
import Derived.Test.YtfcbfombobelmaaGreatDoorJ06
import Derived.Lib.BytesEntry
import Derived.Laws.Externs
namespace Go.Proofs.YtfcbfombobelmaaGreatDoor
open Go.RowKit

set_option maxRecDepth 100000 in
/-- The five cells of a boxed cell, behind a call. -/
theorem box5 {w w1 : World} {x0 x1 x2 x3 x4 : Value} {t : TypeId} (hb : Below (w.alloc (.cells #[x0, x1, x2, x3, x4] t)).heap.size (w.alloc (.cells #[x0, x1, x2, x3, x4] t)) w1) :
    w1.cell? ⟨w.heap.size, 0, none⟩ = some x0 ∧ w1.cell? ⟨w.heap.size, 1, none⟩ = some x1 ∧ w1.cell? ⟨w.heap.size, 2, none⟩ = some x2 ∧ w1.cell? ⟨w.heap.size, 3, none⟩ = some x3 ∧ w1.cell? ⟨w.heap.size, 4, none⟩ = some x4 := by
  have hl : w.heap.size < (w.alloc (.cells #[x0, x1, x2, x3, x4] t)).heap.size := by simp
  refine ⟨(hb.cell (p := ⟨w.heap.size, 0, none⟩) hl).trans (by simp), (hb.cell (p := ⟨w.heap.size, 1, none⟩) hl).trans (by simp), (hb.cell (p := ⟨w.heap.size, 2, none⟩) hl).trans (by simp), (hb.cell (p := ⟨w.heap.size, 3, none⟩) hl).trans (by simp), (hb.cell (p := ⟨w.heap.size, 4, none⟩) hl).trans (by simp)⟩
set_option maxRecDepth 100000 in
theorem al5 {w w1 : World} {o : Obj} (hb : Below (w.alloc o).heap.size (w.alloc o) w1) : Below w.heap.size w w1 := bl_go (bl_al (Below.refl _ w) (Nat.le_refl _) _) (Nat.le_refl _) hb
instance (p k : Int) (v : Nat) (a b : Int) : Decidable (leafN p k v a b) := by unfold leafN; infer_instance
instance (k p : Int) (n : Nat) (kd : Int) (v : Nat) (a b : Int) : Decidable (mayN k p n kd v a b) := by unfold mayN; infer_instance
set_option maxRecDepth 100000 in
set_option maxHeartbeats 1000000 in
theorem inLeaf_any (page : Int) (ka : Option Addr) (kn kc : Nat) (kd : Int) (va : Option Addr) (vn vc : Nat) (pg ct : Int) (w : World) (h0 : 0 ≤ page) (h1 : page ≤ 65536) (hv : vn ≤ 140737488355328) :
    Calls Tryz.prog 46 #[.int .i64 page, .agg #[.slice ka kn kc, .int .i64 kd, .slice va vn vc, .int .i64 pg, .int .i64 ct]] w fun e w' => e = .returned (.bool (decide (leafN page kd vn pg ct))) ∧ Below w.heap.size w w' := by
  have hm : 0 ≤ page / 16 * 3 ∧ page / 16 * 3 ≤ 65535 := by omega
  have hal := (Below.refl w.heap.size w).alloc (Nat.le_refl _) (.cells #[.slice ka kn kc, .int .i64 kd, .slice va vn vc, .int .i64 pg, .int .i64 ct] 29)
  by_cases k1 : kd = 1
  · have hq : decide (leafN page kd vn pg ct) = (decide ((vn : Int) ≤ page / 16 * 3) && decide (pg = 0 ∧ ct = 0)) := by rw [Bool.eq_iff_iff, decide_eq_true_iff]; simp [leafN, k1]
    rw [hq]
    subst k1
    clear hq
    by_cases h : (vn : Int) ≤ page / 16 * 3
    · rw [decide_eq_true h, Bool.true_and]
      have d1 : decide ((vn : Int) ≤ page / 16 * 3) = true := decide_eq_true h
      cases hr : decide (pg = 0 ∧ ct = 0)
      all_goals
        go_enter Tryz.func46, Tryz.ntmps46
        go_wp2_with fail
        go_region_with (first | (go_at_call 55; refine same_call (mostValue_any _ _ h0 h1) ?_) | (go_at_call 57; refine (leadsNowhere_any _ _ _ _ _ _ _ _ _ _).mono ?_; rintro e w1 ⟨rfl, hb1⟩; have hbw := bl_go (show Below w.heap.size w _ from by first | exact hal | exact hal.drew | exact bl_dr hal _ | exact (bl_dr hal _).drew | go_grown) (Nat.le_refl _) hb1; rw [hr]))
        all_goals (try go_wp2); all_goals (go_ret; exact ⟨rfl, by first | exact hbw | exact hbw.drew | exact bl_dr hbw _⟩)
    · rw [decide_eq_false h, Bool.false_and]
      have d1 : decide ((vn : Int) ≤ page / 16 * 3) = false := decide_eq_false h
      go_enter Tryz.func46, Tryz.ntmps46
      go_wp2_with fail
      go_quiet (first | (go_at_call 55; exact Calls.quiet_of_same (mostValue_any _ _ h0 h1)))
      go_wp2
      go_ret
      exact ⟨rfl, by first | exact hal | exact bl_dr hal _⟩
  · by_cases hz : vn = 0
    · subst hz
      by_cases k2 : kd = 2
      · have hq : decide (leafN page kd 0 pg ct) = decide (leadsN pg ct (page / 16 * 3 + 1) 65536) := by rw [Bool.eq_iff_iff, decide_eq_true_iff]; simp [leafN, k2]
        rw [hq]
        subst k2
        clear hq
        have hw1 : IntKind.i64.wrap (page / 16 * 3 + 1) = page / 16 * 3 + 1 := by rw [IntKind.wrap_i64]; omega
        have hw2 : wrap64 (page / 16 * 3 + 1) = page / 16 * 3 + 1 := by simp [wrap64]; omega
        generalize hr : decide (leadsN pg ct (page / 16 * 3 + 1) 65536) = r
        go_enter Tryz.func46, Tryz.ntmps46
        go_wp2_with fail
        go_region_with (first | (go_at_call 55; refine same_call (mostValue_any _ _ h0 h1) ?_) | (go_at_call 45; refine (leads_any _ _ _ _ _ _ _ _ _ _ _ _).mono ?_; rintro e w1 ⟨rfl, hb1⟩; have hbw := bl_go (show Below w.heap.size w _ from by first | exact hal | exact hal.drew | exact bl_dr hal _ | exact (bl_dr hal _).drew | go_grown) (Nat.le_refl _) hb1; first | rw [hr] | rw [hw1, hr] | rw [hw2, hr]))
        all_goals (try go_wp2); all_goals (go_ret; exact ⟨rfl, by first | exact hbw | exact hbw.drew | exact bl_dr hbw _⟩)
      · by_cases k4 : kd = 4
        · have hq : decide (leafN page kd 0 pg ct) = (decide (pg = 0 ∧ ct = 0) || decide (leadsN pg ct 1 1073741824)) := by rw [Bool.eq_iff_iff, decide_eq_true_iff]; simp [leafN, k4]
          rw [hq]
          subst k4
          clear hq
          cases hr : decide (pg = 0 ∧ ct = 0)
          · cases hs : decide (leadsN pg ct 1 1073741824)
            all_goals
              go_enter Tryz.func46, Tryz.ntmps46
              go_wp2_with (first | (go_at_call 57; refine (leadsNowhere_any _ _ _ _ _ _ _ _ _ _).mono ?_; rintro e w1 ⟨rfl, hb1⟩; rw [hr]; obtain ⟨c0, c1, c2, c3, c4⟩ := box5 hb1) | (go_at_call 45; refine (leads_any _ _ _ _ _ _ _ _ _ _ _ _).mono ?_; rintro e w2 ⟨rfl, hb2⟩; rw [hs]))
              go_ret
              exact ⟨rfl, bl_go (al5 hb1) (Nat.le_refl _) hb2⟩
          · go_enter Tryz.func46, Tryz.ntmps46
            go_wp2_with (go_at_call 57; refine (leadsNowhere_any _ _ _ _ _ _ _ _ _ _).mono ?_; rintro e w1 ⟨rfl, hb1⟩; rw [hr])
            go_ret
            exact ⟨rfl, al5 hb1⟩
        · have hq : decide (leafN page kd 0 pg ct) = false := by rw [decide_eq_false_iff_not]; simp [leafN, k1, k2, k4]
          rw [hq]
          clear hq
          go_enter Tryz.func46, Tryz.ntmps46
          go_wp2
          go_ret
          exact ⟨rfl, hal⟩
    · have hq : decide (leafN page kd vn pg ct) = false := by rw [decide_eq_false_iff_not]; simp [leafN, k1, hz]
      rw [hq]
      clear hq
      have hz' : 0 < (vn : Int) := by omega
      go_enter Tryz.func46, Tryz.ntmps46
      go_wp2
      go_ret
      exact ⟨rfl, hal⟩
set_option maxRecDepth 100000 in
set_option maxHeartbeats 1000000 in
theorem mayBe_any (kind page : Int) (ka : Option Addr) (kn kc : Nat) (kd : Int) (va : Option Addr) (vn vc : Nat) (pg ct : Int) (w : World) (h0 : 0 ≤ page) (h1 : page ≤ 65536) (hk : kn ≤ 140737488355328) (hv : vn ≤ 140737488355328) :
    Calls Tryz.prog 30 #[.int .i64 kind, .int .i64 page, .agg #[.slice ka kn kc, .int .i64 kd, .slice va vn vc, .int .i64 pg, .int .i64 ct]] w fun e w' => e = .returned (.bool (decide (mayN kind page kn kd vn pg ct))) ∧ Below w.heap.size w w' := by
  have hm : 0 ≤ page / 8 ∧ page / 8 ≤ 65535 := by omega
  have hal := (Below.refl w.heap.size w).alloc (Nat.le_refl _) (.cells #[.slice ka kn kc, .int .i64 kd, .slice va vn vc, .int .i64 pg, .int .i64 ct] 29)
  by_cases h : (kn : Int) ≤ page / 8
  · have d1 : decide (page / 8 < (kn : Int)) = false := decide_eq_false (by omega)
    by_cases k3 : kind = 3
    · have hq : decide (mayN kind page kn kd vn pg ct) = (decide (kd = 3) && (decide (vn = 0) && decide (leadsN pg ct 1 1073741824))) := by rw [Bool.eq_iff_iff, decide_eq_true_iff]; simp [mayN, h, k3]
      rw [hq]
      subst k3
      clear hq
      by_cases d3 : kd = 3
      · subst d3
        by_cases hz : vn = 0
        · subst hz
          cases hs : decide (leadsN pg ct 1 1073741824)
          all_goals
            go_enter Tryz.func30, Tryz.ntmps30
            go_wp2_with fail
            go_quiet (first | (go_at_call 55; exact Calls.quiet_of_same (mostValue_any _ _ h0 h1)) | (go_at_call 44; exact Calls.quiet_of_same (mostKey_any _ _ h0 h1)))
            go_wp2_with (first | (go_at_call 45; refine (leads_any _ _ _ _ _ _ _ _ _ _ _ _).mono ?_; rintro e w1 ⟨rfl, hb1⟩; have hbw := bl_go (show Below w.heap.size w _ from by first | exact hal | exact hal.drew | exact bl_dr hal _ | exact (bl_dr hal _).drew | go_grown) (Nat.le_refl _) hb1; rw [hs]))
            all_goals (try go_wp2); all_goals (go_ret; exact ⟨rfl, by first | exact hbw | exact hbw.drew | exact bl_dr hbw _⟩)
        · have hz' : 0 < (vn : Int) := by omega
          have hz2 : ¬ (vn : Int) = 0 := by omega
          rw [decide_eq_false hz]
          go_enter Tryz.func30, Tryz.ntmps30
          go_wp2_with fail
          go_quiet (first | (go_at_call 55; exact Calls.quiet_of_same (mostValue_any _ _ h0 h1)) | (go_at_call 44; exact Calls.quiet_of_same (mostKey_any _ _ h0 h1)))
          go_wp2
          go_ret
          exact ⟨rfl, by first | exact hal | exact bl_dr hal _⟩
      · rw [decide_eq_false d3]
        go_enter Tryz.func30, Tryz.ntmps30
        go_wp2_with fail
        go_quiet (first | (go_at_call 55; exact Calls.quiet_of_same (mostValue_any _ _ h0 h1)) | (go_at_call 44; exact Calls.quiet_of_same (mostKey_any _ _ h0 h1)))
        go_wp2
        go_ret
        exact ⟨rfl, by first | exact hal | exact bl_dr hal _⟩
    · have hq : decide (mayN kind page kn kd vn pg ct) = (decide (0 < kn) && decide (leafN page kd vn pg ct)) := by rw [Bool.eq_iff_iff, decide_eq_true_iff]; simp [mayN, h, k3]
      rw [hq]
      clear hq
      by_cases hz : 0 < kn
      · have hz' : 0 < (kn : Int) := by omega
        rw [decide_eq_true hz]
        cases hs : decide (leafN page kd vn pg ct)
        all_goals
          go_enter Tryz.func30, Tryz.ntmps30
          go_wp2_with fail
          go_quiet (first | (go_at_call 55; exact Calls.quiet_of_same (mostValue_any _ _ h0 h1)) | (go_at_call 44; exact Calls.quiet_of_same (mostKey_any _ _ h0 h1)))
          go_wp2_with (first | (go_at_call 46; refine (inLeaf_any _ _ _ _ _ _ _ _ _ _ _ h0 h1 hv).mono ?_; rintro e w1 ⟨rfl, hb1⟩; have hbw := bl_go (show Below w.heap.size w _ from by first | exact hal | exact hal.drew | exact bl_dr hal _ | exact (bl_dr hal _).drew | go_grown) (Nat.le_refl _) hb1; rw [hs]))
          all_goals (try go_wp2); all_goals (go_ret; exact ⟨rfl, by first | exact hbw | exact hbw.drew | exact bl_dr hbw _⟩)
      · obtain rfl : kn = 0 := by omega
        go_enter Tryz.func30, Tryz.ntmps30
        go_wp2_with fail
        go_quiet (first | (go_at_call 55; exact Calls.quiet_of_same (mostValue_any _ _ h0 h1)) | (go_at_call 44; exact Calls.quiet_of_same (mostKey_any _ _ h0 h1)))
        go_wp2
        go_ret
        exact ⟨rfl, by first | exact hal | exact bl_dr hal _⟩
  · have d1 : decide (page / 8 < (kn : Int)) = true := decide_eq_true (by omega)
    have hq : decide (mayN kind page kn kd vn pg ct) = false := by rw [decide_eq_false_iff_not]; simp [mayN, h]
    rw [hq]
    clear hq
    go_enter Tryz.func30, Tryz.ntmps30
    go_wp2_with fail
    go_quiet (first | (go_at_call 55; exact Calls.quiet_of_same (mostValue_any _ _ h0 h1)) | (go_at_call 44; exact Calls.quiet_of_same (mostKey_any _ _ h0 h1)))
    go_wp2
    go_ret
    exact ⟨rfl, by first | exact hal | exact bl_dr hal _⟩
end Go.Proofs.YtfcbfombobelmaaGreatDoor

/- How keys stand: bytes.Compare, plain.rise, and strings. -/

namespace Go.Proofs.YtfcbfombobelmaaGreatDoor
open Go.RowKit

set_option maxRecDepth 100000 in
theorem u8_lt (x y : Int) (hx : 0 ≤ x ∧ x ≤ 255) (hy : 0 ≤ y ∧ y ≤ 255) : UInt8.ofNat x.toNat < UInt8.ofNat y.toNat ↔ x < y := by
  rw [UInt8.lt_iff_toNat_lt, UInt8.toNat_ofNat', UInt8.toNat_ofNat']
  omega
set_option maxRecDepth 100000 in
theorem cmp_ord : ∀ (a b : List Int), Wf a → Wf b → Lib.compareBytes (Lib.bytesOf a) (Lib.bytesOf b) = ordL a b
  | [], [], _, _ => rfl
  | [], _ :: _, _, _ => rfl
  | _ :: _, [], _, _ => rfl
  | x :: a, y :: b, ha, hb => by
    have hx := ha x (by simp)
    have hy := hb y (by simp)
    have ih := cmp_ord a b (fun z hz => ha z (by simp [hz])) (fun z hz => hb z (by simp [hz]))
    unfold Lib.bytesOf at ih ⊢
    simp only [List.map_cons, Lib.compareBytes, ordL, u8_lt x y hx hy, u8_lt y x hy hx, ih]
set_option maxRecDepth 100000 in
theorem run_bytes {w : World} {ao : Option Addr} {n cap : Nat} {l : List Int} (h : Sl w ao n cap l) : (Extern.Bytes.bytesOf (.slice ao n cap)).run Tryz.prog w = .ok ⟨(Lib.bytesOf l).toArray⟩ w := by
  obtain ⟨hlen, hcap, hroom, hwf, hnil, hat⟩ := h
  have he : (⟨ByteArray.empty.data ++ (Lib.bytesOf l).toArray⟩ : ByteArray) = ⟨(Lib.bytesOf l).toArray⟩ := by
    apply ByteArray.ext
    show (#[] : Array UInt8) ++ (Lib.bytesOf l).toArray = (Lib.bytesOf l).toArray
    simp
  cases ao with
  | none =>
    have : n = 0 := by have := hnil rfl; omega
    obtain rfl : l = [] := List.eq_nil_of_length_eq_zero (by omega)
    rfl
  | some a =>
    have hl := Lib.run_loadBytesX (P := Tryz.prog) w l a .empty (fun j x hj => by
      have hjl : j < l.length := (List.getElem?_eq_some_iff.1 hj).1
      rcases hat with h0 | ⟨b, off, e, hb, hc⟩
      · omega
      · injection e with e
        subst e
        rw [Addr.add_lit, hc j (by omega), List.getD_eq_getElem?_getD, hj]
        rfl)
    rw [hlen, he] at hl
    simpa [Extern.Bytes.bytesOf] using hl
set_option maxRecDepth 100000 in
theorem run_cmp {w : World} {ao bo : Option Addr} {n m c d : Nat} {la lb : List Int} (ha : Sl w ao n c la) (hb : Sl w bo m d lb) :
    (Extern.BytealgCompare.compare #[.slice ao n c, .slice bo m d]).run Tryz.prog w = .ok (.int .i64 (ordL la lb)) w := by
  change Sem.run Tryz.prog (do pure (goInt (Extern.BytealgCompare.cmp (← Extern.Bytes.bytesOf (.slice ao n c)) (← Extern.Bytes.bytesOf (.slice bo m d))))) w = _
  simp only [Sem.run_bind, run_bytes ha, run_bytes hb, Sem.run_pure, Result.andThen]
  rw [Lib.cmp_eq, show (⟨(Lib.bytesOf la).toArray⟩ : ByteArray).data.toList = Lib.bytesOf la from rfl, show (⟨(Lib.bytesOf lb).toArray⟩ : ByteArray).data.toList = Lib.bytesOf lb from rfl, cmp_ord la lb ha.wf hb.wf]
  rfl
set_option maxRecDepth 100000 in
theorem compare_any (ao bo : Option Addr) (n m c d : Nat) (la lb : List Int) (w : World) (ha : Sl w ao n c la) (hb : Sl w bo m d lb) :
    Calls Tryz.prog 131 #[.slice ao n c, .slice bo m d] w fun e w' => e = .returned (.int .i64 (ordL la lb)) ∧ w' = w := by
  have hr := run_cmp ha hb
  clear ha hb
  go_enter Tryz.func131, Tryz.ntmps131
  go_wp2
  rw [run_callFunc_extern Tryz.func159 (by kernel_rfl) (by kernel_rfl) (by kernel_rfl) (e := Extern.BytealgCompare.compare) (by kernel_rfl), hr]
  simp only [Result.andThen]
  rw [Oper.upon_value]
  go_wp2
  go_ret
  exact ⟨rfl, rfl⟩
set_option maxRecDepth 100000 in
theorem rise_any (ao bo : Option Addr) (n m c d : Nat) (la lb : List Int) (w : World) (ha : Sl w ao n c la) (hb : Sl w bo m d lb) :
    Calls Tryz.prog 100 #[.slice ao n c, .slice bo m d] w fun e w' => e = .returned (.bool (decide (kl la lb))) ∧ w' = w := by
  have hr := compare_any ao bo n m c d la lb w ha hb
  have hq : decide (kl la lb) = decide (ordL la lb < 0) := by
    have := ordL_three la lb
    refine decide_eq_decide.2 ?_
    unfold kl
    omega
  rw [hq]
  clear ha hb hq
  generalize ordL la lb = x at *
  go_enter Tryz.func100, Tryz.ntmps100
  go_wp2_with (go_at_call 131; refine same_call hr ?_)
  go_ret
  exact ⟨rfl, rfl⟩
end Go.Proofs.YtfcbfombobelmaaGreatDoor
