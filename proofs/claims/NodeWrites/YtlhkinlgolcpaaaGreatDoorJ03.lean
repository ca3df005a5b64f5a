import Derived.Test.YtlhkinlgolcpaaaGreatDoorJ02
import Derived.Lib.BytesEntry
import Derived.Laws.Externs
namespace Go.Proofs.YtlhkinlgolcpaaaGreatDoor
set_option maxRecDepth 100000
open Go.RowKit
def Bk (w : World) (g : Nat) (l : List Int) : Prop := w.heap[g]? = some (.cells (By l).toArray 5 (0, 0))
theorem Bk.on {w w' : World} {g : Nat} {l : List Int} (h : Bk w g l) (hb : Below w.heap.size w w') : Bk w' g l := (hb.block _ (lt_some h)).trans h
theorem set_row {w : World} {a i : Nat} {cs : List Value} {t : TypeId} {u : Value} (h : w.heap[a]? = some (.cells cs.toArray t (0, 0))) : (w.setCell ⟨a, i, none⟩ u).heap[a]? = some (.cells (cs.set i u).toArray t (0, 0)) := by
 have := setCell_eq_setRow w a i cs.toArray t (0, 0) u h
 rw [this, setRow_heap w a _ _ t _ h]
 simp
theorem Bk.cell {w : World} {g : Nat} {l : List Int} (h : Bk w g l) (k : Nat) (hk : k < l.length) : w.cell? ⟨g, k, none⟩ = some (.int .u8 (l.getD k 0)) := by
 rw [cell_of_row _ _ k _ _ _ h]
 simp [By, List.getElem?_eq_getElem hk, List.getD]
theorem Bk.free {w : World} {g : Nat} {l : List Int} (h : Bk w g l) (k : Nat) : w.frozen? ⟨g, k, none⟩ = false := by
 unfold Bk at h
 simp [World.frozen?, h]
theorem Bk.sl {w : World} {g n : Nat} {l : List Int} (h : Bk w g l) (hl : l.length = n) (hw : Wf l) (hn : n ≤ 140737488355328) : Sl w (some ⟨g, 0, none⟩) n n l :=
 ⟨hl, Nat.le_refl _, hn, hw, (by intro h; cases h), .inr ⟨g, 0, rfl, lt_some h, fun i hi => by rw [Nat.zero_add]; exact h.cell i (by omega)⟩⟩
theorem Sl.alloc5 {w : World} {ao : Option Addr} {n cap : Nat} {l : List Int} (h : Sl w ao n cap l) (o : Obj) : Sl (w.alloc o) ao n cap l := h.on (Nat.le_refl _) ((Below.refl _ _).alloc (Nat.le_refl _) o)
theorem lit_cell5 (w : World) (cs : Array Value) (t : TypeId) (f : Nat × Nat) (i B : Nat) (hB : w.heap.size = B) : (w.alloc (.cells cs t f)).cell? ⟨B, i, none⟩ = cs[i]? := by
 subst hB
 unfold World.cell?
 rw [show (w.alloc (.cells cs t f)).heap[w.heap.size]? = some (.cells cs t f) from heap_alloc_new w _]
 rfl
theorem sls_one5 (w : World) (a : Option Addr) (n c : Nat) (la : List Int) (ha : Sl w a n c la) (B : Nat) (hB : w.heap.size = B) : SlS (w.alloc (.cells #[.slice a n c] 25)) (some ⟨B, 0, none⟩) 1 1 [la] := by
 refine ⟨rfl, Nat.le_refl _, by omega, (by intro h; cases h), .inr ⟨B, 0, rfl, by simp; omega, fun i hi => ?_⟩⟩
 obtain rfl : i = 0 := by omega
 exact ⟨a, n, c, lit_cell5 _ _ _ _ _ _ hB, ha.alloc5 _⟩
theorem SlS.drew5 {w : World} {ao : Option Addr} {n cap : Nat} {ls : List (List Int)} (h : SlS w ao n cap ls) : SlS w.drew ao n cap ls := by
 refine ⟨h.hlen, h.hcap, h.hroom, h.hnil, ?_⟩
 rcases h.hat with h0 | ⟨b, off, e, hb, hc⟩
 ·exact .inl h0
 ·refine .inr ⟨b, off, e, hb, fun i hi => ?_⟩
  obtain ⟨a, m, c, h1, h2⟩ := hc i hi
  exact ⟨a, m, c, h1, h2.on (Nat.le_refl _) (Below.refl _ _).drew⟩
end Go.Proofs.YtlhkinlgolcpaaaGreatDoor

namespace Go.Proofs.YtlhkinlgolcpaaaGreatDoor
set_option maxRecDepth 100000
open Go.RowKit
def leadsN (pg ct lo hi : Int) : Prop := (2 ≤ pg ∧ pg ≤ 65535) ∧ (lo ≤ ct ∧ ct ≤ hi)
def leafN (page : Int) (kd : Int) (vn : Nat) (pg ct : Int) : Prop :=
 (kd = 1 ∧ (vn : Int) ≤ page / 16 * 3 ∧ (pg = 0 ∧ ct = 0)) ∨ (kd = 2 ∧ vn = 0 ∧ leadsN pg ct (page / 16 * 3 + 1) 65536) ∨ (kd = 4 ∧ vn = 0 ∧ ((pg = 0 ∧ ct = 0) ∨ leadsN pg ct 1 1073741824))
def mayN (kind page : Int) (kn : Nat) (kd : Int) (vn : Nat) (pg ct : Int) : Prop :=
 (kn : Int) ≤ page / 8 ∧ ((kind = 3 ∧ kd = 3 ∧ vn = 0 ∧ leadsN pg ct 1 1073741824) ∨ (kind ≠ 3 ∧ 0 < kn ∧ leafN page kd vn pg ct))
theorem mayP_iff (k p : Int) (c : Cl) : mayN k p c.key.length c.kd c.val.length c.pg c.ct ↔ mayP k p c := by
 simp only [mayN, mayP, leafN, leadsN, leadsP, nowhere, List.length_eq_zero_iff]
theorem ret_bool {b c : Bool} (h : b = c) : Ending.returned (.bool b) = .returned (.bool c) := by rw [h]
theorem within_any (n lo hi : Int) (w : World) : Calls Tryz.prog 61 #[.int .i64 n, .int .i64 lo, .int .i64 hi] w fun e w' => e = .returned (.bool (decide (lo ≤ n ∧ n ≤ hi))) ∧ w' = w := by
 go_enter Tryz.func61, Tryz.ntmps61
 go_wp2
 all_goals go_ret
 all_goals refine ⟨ret_bool ?_, rfl⟩
 all_goals (rw [Bool.eq_iff_iff]; first | (simp; done) | (simp; omega) | (simp_all; done) | (simp_all; omega))
theorem isKind_any (k : Int) (w : World) : Calls Tryz.prog 25 #[.int .i64 k] w fun e w' => e = .returned (.bool (decide (isKd k))) ∧ w' = w := by
 go_enter Tryz.func25, Tryz.ntmps25
 go_wp2
 all_goals go_ret
 all_goals refine ⟨ret_bool ?_, rfl⟩
 all_goals (rw [Bool.eq_iff_iff]; first | (simp [isKd]; done) | (simp [isKd]; omega) | (simp_all [isKd]; done) | (simp_all [isKd]; omega))
theorem mostKey_any (p : Int) (w : World) (h0 : 0 ≤ p) (h1 : p ≤ 65536) : Calls Tryz.prog 41 #[.int .i64 p] w fun e w' => e = .returned (.int .i64 (p / 8)) ∧ w' = w := by
 go_enter Tryz.func41, Tryz.ntmps41
 go_wp2
 go_ret
 exact ⟨rfl, rfl⟩
theorem mostValue_any (p : Int) (w : World) (h0 : 0 ≤ p) (h1 : p ≤ 65536) : Calls Tryz.prog 42 #[.int .i64 p] w fun e w' => e = .returned (.int .i64 (p / 16 * 3)) ∧ w' = w := by
 go_enter Tryz.func42, Tryz.ntmps42
 go_wp2
 go_ret
 exact ⟨rfl, rfl⟩
theorem isSize_any (p : Int) (w : World) : Calls Tryz.prog 24 #[.int .i64 p] w fun e w' => e = .returned (.bool (decide (pw p))) ∧ w' = w := by
 by_cases h : 512 ≤ p ∧ p ≤ 65536
 ·have hp := pow_iff p h.1 h.2
  have h1 := h.1
  have h2 := h.2
  have e : decide (512 ≤ p ∧ p ≤ 65536) = true := by simpa using h
  obtain ⟨z, hz⟩ : ∃ z, bits .and .i64 p (p - 1) = z := ⟨_, rfl⟩
  rw [hz] at hp
  rw [show decide (pw p) = decide (z = 0) from by simp [hp]]
  clear hp
  go_enter Tryz.func24, Tryz.ntmps24
  go_wp2_with (go_at_call 61; refine same_call (within_any _ _ _ _) ?_; rw [e])
  all_goals go_ret
  all_goals refine ⟨?_, rfl⟩
  all_goals (congr 2 <;> simp)
 ·have e : decide (512 ≤ p ∧ p ≤ 65536) = false := by simpa using h
  have e2 : decide (pw p) = false := by
   rw [decide_eq_false_iff_not]
   exact fun hq => h (pw_le hq)
  rw [e2]
  go_enter Tryz.func24, Tryz.ntmps24
  go_wp2_with (go_at_call 61; refine same_call (within_any _ _ _ _) ?_; rw [e])
  go_ret
  exact ⟨rfl, rfl⟩
theorem leadsNowhere_any (ka : Option Addr) (kn kc : Nat) (kd : Int) (va : Option Addr) (vn vc : Nat) (pg ct : Int) (w : World) :
  Calls Tryz.prog 138 #[.agg #[.slice ka kn kc, .int .i64 kd, .slice va vn vc, .int .i64 pg, .int .i64 ct]] w fun e w' => e = .returned (.bool (decide (pg = 0 ∧ ct = 0))) ∧ Below w.heap.size w w' := by
 go_enter Tryz.func138, Tryz.ntmps138
 go_wp2
 all_goals go_ret
 all_goals refine ⟨ret_bool ?_, (Below.refl _ _).alloc (Nat.le_refl _) _⟩
 all_goals (rw [Bool.eq_iff_iff]; first | (simp; done) | (simp; omega) | (simp_all; done) | (simp_all; omega))
instance (a b c d : Int) : Decidable (leadsN a b c d) := by unfold leadsN; infer_instance
theorem leads_any (ka : Option Addr) (kn kc : Nat) (kd : Int) (va : Option Addr) (vn vc : Nat) (pg ct lo hi : Int) (w : World) :
  Calls Tryz.prog 111 #[.agg #[.slice ka kn kc, .int .i64 kd, .slice va vn vc, .int .i64 pg, .int .i64 ct], .int .i64 lo, .int .i64 hi] w fun e w' => e = .returned (.bool (decide (leadsN pg ct lo hi))) ∧ Below w.heap.size w w' := by
 have hq : decide (leadsN pg ct lo hi) = (decide (2 ≤ pg ∧ pg ≤ 65535) && decide (lo ≤ ct ∧ ct ≤ hi)) := by rw [Bool.eq_iff_iff, decide_eq_true_iff]; simp [leadsN]
 rw [hq]
 cases h1 : decide (2 ≤ pg ∧ pg ≤ 65535)
 ·go_enter Tryz.func111, Tryz.ntmps111
  go_wp2_with (go_at_call 61; refine same_call (within_any _ _ _ _) ?_; rw [h1])
  go_ret
  exact ⟨rfl, (Below.refl _ _).alloc (Nat.le_refl _) _⟩
 ·have W2 := fun u => within_any ct lo hi u
  cases h2 : decide (lo ≤ ct ∧ ct ≤ hi)
  all_goals
   go_enter Tryz.func111, Tryz.ntmps111
   go_wp2_with (go_at_call 61; refine same_call (within_any _ _ _ _) ?_; first | rw [h1] | rw [h2])
   go_ret
   exact ⟨rfl, (Below.refl _ _).alloc (Nat.le_refl _) _⟩
end Go.Proofs.YtlhkinlgolcpaaaGreatDoor

namespace Go.Proofs.YtlhkinlgolcpaaaGreatDoor
set_option maxRecDepth 100000
open Go.RowKit
theorem box5 {w w1 : World} {x0 x1 x2 x3 x4 : Value} {t : TypeId} (hb : Below (w.alloc (.cells #[x0, x1, x2, x3, x4] t)).heap.size (w.alloc (.cells #[x0, x1, x2, x3, x4] t)) w1) :
  w1.cell? ⟨w.heap.size, 0, none⟩ = some x0 ∧ w1.cell? ⟨w.heap.size, 1, none⟩ = some x1 ∧ w1.cell? ⟨w.heap.size, 2, none⟩ = some x2 ∧ w1.cell? ⟨w.heap.size, 3, none⟩ = some x3 ∧ w1.cell? ⟨w.heap.size, 4, none⟩ = some x4 := by
 have hl : w.heap.size < (w.alloc (.cells #[x0, x1, x2, x3, x4] t)).heap.size := by simp
 refine ⟨(hb.cell (p := ⟨w.heap.size, 0, none⟩) hl).trans (by simp), (hb.cell (p := ⟨w.heap.size, 1, none⟩) hl).trans (by simp), (hb.cell (p := ⟨w.heap.size, 2, none⟩) hl).trans (by simp), (hb.cell (p := ⟨w.heap.size, 3, none⟩) hl).trans (by simp), (hb.cell (p := ⟨w.heap.size, 4, none⟩) hl).trans (by simp)⟩
theorem al5 {w w1 : World} {o : Obj} (hb : Below (w.alloc o).heap.size (w.alloc o) w1) : Below w.heap.size w w1 := bl_go (bl_al (Below.refl _ w) (Nat.le_refl _) _) (Nat.le_refl _) hb
instance (p k : Int) (v : Nat) (a b : Int) : Decidable (leafN p k v a b) := by unfold leafN; infer_instance
instance (k p : Int) (n : Nat) (kd : Int) (v : Nat) (a b : Int) : Decidable (mayN k p n kd v a b) := by unfold mayN; infer_instance
set_option maxHeartbeats 1000000 in
theorem inLeaf_any (page : Int) (ka : Option Addr) (kn kc : Nat) (kd : Int) (va : Option Addr) (vn vc : Nat) (pg ct : Int) (w : World) (h0 : 0 ≤ page) (h1 : page ≤ 65536) (hv : vn ≤ 140737488355328) :
  Calls Tryz.prog 112 #[.int .i64 page, .agg #[.slice ka kn kc, .int .i64 kd, .slice va vn vc, .int .i64 pg, .int .i64 ct]] w fun e w' => e = .returned (.bool (decide (leafN page kd vn pg ct))) ∧ Below w.heap.size w w' := by
 have hm : 0 ≤ page / 16 * 3 ∧ page / 16 * 3 ≤ 65535 := by omega
 have hal := (Below.refl w.heap.size w).alloc (Nat.le_refl _) (.cells #[.slice ka kn kc, .int .i64 kd, .slice va vn vc, .int .i64 pg, .int .i64 ct] 41)
 by_cases k1 : kd = 1
 ·have hq : decide (leafN page kd vn pg ct) = (decide ((vn : Int) ≤ page / 16 * 3) && decide (pg = 0 ∧ ct = 0)) := by rw [Bool.eq_iff_iff, decide_eq_true_iff]; simp [leafN, k1]
  rw [hq]
  subst k1
  clear hq
  by_cases h : (vn : Int) ≤ page / 16 * 3
  ·rw [decide_eq_true h, Bool.true_and]
   have d1 : decide ((vn : Int) ≤ page / 16 * 3) = true := decide_eq_true h
   cases hr : decide (pg = 0 ∧ ct = 0)
   all_goals
    go_enter Tryz.func112, Tryz.ntmps112
    go_wp2_with fail
    go_region_with (first | (go_at_call 42; refine same_call (mostValue_any _ _ h0 h1) ?_) | (go_at_call 138; refine (leadsNowhere_any _ _ _ _ _ _ _ _ _ _).mono ?_; rintro e w1 ⟨rfl, hb1⟩; have hbw := bl_go (show Below w.heap.size w _ from by first | exact hal | exact hal.drew | exact bl_dr hal _ | exact (bl_dr hal _).drew | go_grown) (Nat.le_refl _) hb1; rw [hr]))
    all_goals (try go_wp2); all_goals (go_ret; exact ⟨rfl, by first | exact hbw | exact hbw.drew | exact bl_dr hbw _⟩)
  ·rw [decide_eq_false h, Bool.false_and]
   have d1 : decide ((vn : Int) ≤ page / 16 * 3) = false := decide_eq_false h
   go_enter Tryz.func112, Tryz.ntmps112
   go_wp2_with fail
   go_quiet (first | (go_at_call 42; exact Calls.quiet_of_same (mostValue_any _ _ h0 h1)))
   go_wp2
   go_ret
   exact ⟨rfl, by first | exact hal | exact bl_dr hal _⟩
 ·by_cases hz : vn = 0
  ·subst hz
   by_cases k2 : kd = 2
   ·have hq : decide (leafN page kd 0 pg ct) = decide (leadsN pg ct (page / 16 * 3 + 1) 65536) := by rw [Bool.eq_iff_iff, decide_eq_true_iff]; simp [leafN, k2]
    rw [hq]
    subst k2
    clear hq
    have hw1 : IntKind.i64.wrap (page / 16 * 3 + 1) = page / 16 * 3 + 1 := by rw [IntKind.wrap_i64]; omega
    have hw2 : wrap64 (page / 16 * 3 + 1) = page / 16 * 3 + 1 := by simp [wrap64]; omega
    generalize hr : decide (leadsN pg ct (page / 16 * 3 + 1) 65536) = r
    go_enter Tryz.func112, Tryz.ntmps112
    go_wp2_with fail
    go_region_with (first | (go_at_call 42; refine same_call (mostValue_any _ _ h0 h1) ?_) | (go_at_call 111; refine (leads_any _ _ _ _ _ _ _ _ _ _ _ _).mono ?_; rintro e w1 ⟨rfl, hb1⟩; have hbw := bl_go (show Below w.heap.size w _ from by first | exact hal | exact hal.drew | exact bl_dr hal _ | exact (bl_dr hal _).drew | go_grown) (Nat.le_refl _) hb1; first | rw [hr] | rw [hw1, hr] | rw [hw2, hr]))
    all_goals (try go_wp2); all_goals (go_ret; exact ⟨rfl, by first | exact hbw | exact hbw.drew | exact bl_dr hbw _⟩)
   ·by_cases k4 : kd = 4
    ·have hq : decide (leafN page kd 0 pg ct) = (decide (pg = 0 ∧ ct = 0) || decide (leadsN pg ct 1 1073741824)) := by rw [Bool.eq_iff_iff, decide_eq_true_iff]; simp [leafN, k4]
     rw [hq]
     subst k4
     clear hq
     cases hr : decide (pg = 0 ∧ ct = 0)
     ·cases hs : decide (leadsN pg ct 1 1073741824)
      all_goals
       go_enter Tryz.func112, Tryz.ntmps112
       go_wp2_with (first | (go_at_call 138; refine (leadsNowhere_any _ _ _ _ _ _ _ _ _ _).mono ?_; rintro e w1 ⟨rfl, hb1⟩; rw [hr]; obtain ⟨c0, c1, c2, c3, c4⟩ := box5 hb1) | (go_at_call 111; refine (leads_any _ _ _ _ _ _ _ _ _ _ _ _).mono ?_; rintro e w2 ⟨rfl, hb2⟩; rw [hs]))
       go_ret
       exact ⟨rfl, bl_go (al5 hb1) (Nat.le_refl _) hb2⟩
     ·go_enter Tryz.func112, Tryz.ntmps112
      go_wp2_with (go_at_call 138; refine (leadsNowhere_any _ _ _ _ _ _ _ _ _ _).mono ?_; rintro e w1 ⟨rfl, hb1⟩; rw [hr])
      go_ret
      exact ⟨rfl, al5 hb1⟩
    ·have hq : decide (leafN page kd 0 pg ct) = false := by rw [decide_eq_false_iff_not]; simp [leafN, k1, k2, k4]
     rw [hq]
     clear hq
     go_enter Tryz.func112, Tryz.ntmps112
     go_wp2
     go_ret
     exact ⟨rfl, hal⟩
  ·have hq : decide (leafN page kd vn pg ct) = false := by rw [decide_eq_false_iff_not]; simp [leafN, k1, hz]
   rw [hq]
   clear hq
   have hz' : 0 < (vn : Int) := by omega
   go_enter Tryz.func112, Tryz.ntmps112
   go_wp2
   go_ret
   exact ⟨rfl, hal⟩
set_option maxHeartbeats 1000000 in
theorem mayBe_any (kind page : Int) (ka : Option Addr) (kn kc : Nat) (kd : Int) (va : Option Addr) (vn vc : Nat) (pg ct : Int) (w : World) (h0 : 0 ≤ page) (h1 : page ≤ 65536) (hk : kn ≤ 140737488355328) (hv : vn ≤ 140737488355328) :
  Calls Tryz.prog 81 #[.int .i64 kind, .int .i64 page, .agg #[.slice ka kn kc, .int .i64 kd, .slice va vn vc, .int .i64 pg, .int .i64 ct]] w fun e w' => e = .returned (.bool (decide (mayN kind page kn kd vn pg ct))) ∧ Below w.heap.size w w' := by
 have hm : 0 ≤ page / 8 ∧ page / 8 ≤ 65535 := by omega
 have hal := (Below.refl w.heap.size w).alloc (Nat.le_refl _) (.cells #[.slice ka kn kc, .int .i64 kd, .slice va vn vc, .int .i64 pg, .int .i64 ct] 41)
 by_cases h : (kn : Int) ≤ page / 8
 ·have d1 : decide (page / 8 < (kn : Int)) = false := decide_eq_false (by omega)
  by_cases k3 : kind = 3
  ·have hq : decide (mayN kind page kn kd vn pg ct) = (decide (kd = 3) && (decide (vn = 0) && decide (leadsN pg ct 1 1073741824))) := by rw [Bool.eq_iff_iff, decide_eq_true_iff]; simp [mayN, h, k3]
   rw [hq]
   subst k3
   clear hq
   by_cases d3 : kd = 3
   ·subst d3
    by_cases hz : vn = 0
    ·subst hz
     cases hs : decide (leadsN pg ct 1 1073741824)
     all_goals
      go_enter Tryz.func81, Tryz.ntmps81
      go_wp2_with fail
      go_quiet (first | (go_at_call 42; exact Calls.quiet_of_same (mostValue_any _ _ h0 h1)) | (go_at_call 41; exact Calls.quiet_of_same (mostKey_any _ _ h0 h1)))
      go_wp2_with (first | (go_at_call 111; refine (leads_any _ _ _ _ _ _ _ _ _ _ _ _).mono ?_; rintro e w1 ⟨rfl, hb1⟩; have hbw := bl_go (show Below w.heap.size w _ from by first | exact hal | exact hal.drew | exact bl_dr hal _ | exact (bl_dr hal _).drew | go_grown) (Nat.le_refl _) hb1; rw [hs]))
      all_goals (try go_wp2); all_goals (go_ret; exact ⟨rfl, by first | exact hbw | exact hbw.drew | exact bl_dr hbw _⟩)
    ·have hz' : 0 < (vn : Int) := by omega
     have hz2 : ¬ (vn : Int) = 0 := by omega
     rw [decide_eq_false hz]
     go_enter Tryz.func81, Tryz.ntmps81
     go_wp2_with fail
     go_quiet (first | (go_at_call 42; exact Calls.quiet_of_same (mostValue_any _ _ h0 h1)) | (go_at_call 41; exact Calls.quiet_of_same (mostKey_any _ _ h0 h1)))
     go_wp2
     go_ret
     exact ⟨rfl, by first | exact hal | exact bl_dr hal _⟩
   ·rw [decide_eq_false d3]
    go_enter Tryz.func81, Tryz.ntmps81
    go_wp2_with fail
    go_quiet (first | (go_at_call 42; exact Calls.quiet_of_same (mostValue_any _ _ h0 h1)) | (go_at_call 41; exact Calls.quiet_of_same (mostKey_any _ _ h0 h1)))
    go_wp2
    go_ret
    exact ⟨rfl, by first | exact hal | exact bl_dr hal _⟩
  ·have hq : decide (mayN kind page kn kd vn pg ct) = (decide (0 < kn) && decide (leafN page kd vn pg ct)) := by rw [Bool.eq_iff_iff, decide_eq_true_iff]; simp [mayN, h, k3]
   rw [hq]
   clear hq
   by_cases hz : 0 < kn
   ·have hz' : 0 < (kn : Int) := by omega
    rw [decide_eq_true hz]
    cases hs : decide (leafN page kd vn pg ct)
    all_goals
     go_enter Tryz.func81, Tryz.ntmps81
     go_wp2_with fail
     go_quiet (first | (go_at_call 42; exact Calls.quiet_of_same (mostValue_any _ _ h0 h1)) | (go_at_call 41; exact Calls.quiet_of_same (mostKey_any _ _ h0 h1)))
     go_wp2_with (first | (go_at_call 112; refine (inLeaf_any _ _ _ _ _ _ _ _ _ _ _ h0 h1 hv).mono ?_; rintro e w1 ⟨rfl, hb1⟩; have hbw := bl_go (show Below w.heap.size w _ from by first | exact hal | exact hal.drew | exact bl_dr hal _ | exact (bl_dr hal _).drew | go_grown) (Nat.le_refl _) hb1; rw [hs]))
     all_goals (try go_wp2); all_goals (go_ret; exact ⟨rfl, by first | exact hbw | exact hbw.drew | exact bl_dr hbw _⟩)
   ·obtain rfl : kn = 0 := by omega
    go_enter Tryz.func81, Tryz.ntmps81
    go_wp2_with fail
    go_quiet (first | (go_at_call 42; exact Calls.quiet_of_same (mostValue_any _ _ h0 h1)) | (go_at_call 41; exact Calls.quiet_of_same (mostKey_any _ _ h0 h1)))
    go_wp2
    go_ret
    exact ⟨rfl, by first | exact hal | exact bl_dr hal _⟩
 ·have d1 : decide (page / 8 < (kn : Int)) = true := decide_eq_true (by omega)
  have hq : decide (mayN kind page kn kd vn pg ct) = false := by rw [decide_eq_false_iff_not]; simp [mayN, h]
  rw [hq]
  clear hq
  go_enter Tryz.func81, Tryz.ntmps81
  go_wp2_with fail
  go_quiet (first | (go_at_call 42; exact Calls.quiet_of_same (mostValue_any _ _ h0 h1)) | (go_at_call 41; exact Calls.quiet_of_same (mostKey_any _ _ h0 h1)))
  go_wp2
  go_ret
  exact ⟨rfl, by first | exact hal | exact bl_dr hal _⟩
end Go.Proofs.YtlhkinlgolcpaaaGreatDoor

namespace Go.Proofs.YtlhkinlgolcpaaaGreatDoor
set_option maxRecDepth 100000
open Go.RowKit
theorem u8_lt (x y : Int) (hx : 0 ≤ x ∧ x ≤ 255) (hy : 0 ≤ y ∧ y ≤ 255) : UInt8.ofNat x.toNat < UInt8.ofNat y.toNat ↔ x < y := by
 rw [UInt8.lt_iff_toNat_lt, UInt8.toNat_ofNat', UInt8.toNat_ofNat']
 omega
theorem cmp_ord : ∀ (a b : List Int), Wf a → Wf b → Lib.compareBytes (Lib.bytesOf a) (Lib.bytesOf b) = ordL a b
 | [], [], _, _ => rfl
 | [], _ :: _, _, _ => rfl
 | _ :: _, [], _, _ => rfl
 | x :: a, y :: b, ha, hb => by
  have hx := ha x (by simp)
  have hy := hb y (by simp)
  have ih := cmp_ord a b (fun z hz => ha z (by simp [hz])) (fun z hz => hb z (by simp [hz]))
  unfold Lib.bytesOf at ih ⊢
  simp only [List.map_cons, Lib.compareBytes, ordL, u8_lt x y hx hy, u8_lt y x hy hx, ih]
theorem less_ord : ∀ (a b : List Int), Wf a → Wf b → Op.bytesLess (Lib.bytesOf a) (Lib.bytesOf b) = decide (kl a b)
 | [], [], _, _ => rfl
 | [], _ :: _, _, _ => rfl
 | _ :: _, [], _, _ => rfl
 | x :: a, y :: b, ha, hb => by
  have hx := ha x (by simp)
  have hy := hb y (by simp)
  have ih := less_ord a b (fun z hz => ha z (by simp [hz])) (fun z hz => hb z (by simp [hz]))
  unfold Lib.bytesOf at ih ⊢
  unfold kl at ih ⊢
  have heq : UInt8.ofNat x.toNat = UInt8.ofNat y.toNat ↔ x = y := ⟨byte_inj hx hy, fun e => by rw [e]⟩
  simp only [List.map_cons, Op.bytesLess, ordL, u8_lt x y hx hy, ih]
  by_cases h1 : x < y
  ·simp [h1]
  ·by_cases h2 : y < x
   ·have : ¬ x = y := by omega
    simp [h1, h2, heq, this]
   ·have : x = y := by omega
    simp [this]
theorem str_less {a b : List Int} (ha : Wf a) (hb : Wf b) : Op.bytesLess (strOfNums a).toList (strOfNums b).toList = decide (kl a b) := by
 rw [Lib.strOfNums_toList, Lib.strOfNums_toList, less_ord a b ha hb]
theorem run_bytes {w : World} {ao : Option Addr} {n cap : Nat} {l : List Int} (h : Sl w ao n cap l) : (Extern.Bytes.bytesOf (.slice ao n cap)).run Tryz.prog w = .ok ⟨(Lib.bytesOf l).toArray⟩ w := by
 obtain ⟨hlen, hcap, hroom, hwf, hnil, hat⟩ := h
 have he : (⟨ByteArray.empty.data ++ (Lib.bytesOf l).toArray⟩ : ByteArray) = ⟨(Lib.bytesOf l).toArray⟩ := by
  apply ByteArray.ext
  show (#[] : Array UInt8) ++ (Lib.bytesOf l).toArray = (Lib.bytesOf l).toArray
  simp
 cases ao with
 | none =>
  have : n = 0 := by have := hnil rfl; omega
  obtain rfl : l = [] := List.eq_nil_of_length_eq_zero (by omega)
  rfl
 | some a =>
  have hl := Lib.run_loadBytesX (P := Tryz.prog) w l a .empty (fun j x hj => by
   have hjl : j < l.length := (List.getElem?_eq_some_iff.1 hj).1
   rcases hat with h0 | ⟨b, off, e, hb, hc⟩
   ·omega
   ·injection e with e
    subst e
    rw [Addr.add_lit, hc j (by omega), List.getD_eq_getElem?_getD, hj]
    rfl)
  rw [hlen, he] at hl
  simpa [Extern.Bytes.bytesOf] using hl
theorem run_cmp {w : World} {ao bo : Option Addr} {n m c d : Nat} {la lb : List Int} (ha : Sl w ao n c la) (hb : Sl w bo m d lb) :
  (Extern.BytealgCompare.compare #[.slice ao n c, .slice bo m d]).run Tryz.prog w = .ok (.int .i64 (ordL la lb)) w := by
 change Sem.run Tryz.prog (do pure (goInt (Extern.BytealgCompare.cmp (← Extern.Bytes.bytesOf (.slice ao n c)) (← Extern.Bytes.bytesOf (.slice bo m d))))) w = _
 simp only [Sem.run_bind, run_bytes ha, run_bytes hb, Sem.run_pure, Result.andThen]
 rw [Lib.cmp_eq, show (⟨(Lib.bytesOf la).toArray⟩ : ByteArray).data.toList = Lib.bytesOf la from rfl, show (⟨(Lib.bytesOf lb).toArray⟩ : ByteArray).data.toList = Lib.bytesOf lb from rfl, cmp_ord la lb ha.wf hb.wf]
 rfl
theorem compare_any (ao bo : Option Addr) (n m c d : Nat) (la lb : List Int) (w : World) (ha : Sl w ao n c la) (hb : Sl w bo m d lb) :
  Calls Tryz.prog 113 #[.slice ao n c, .slice bo m d] w fun e w' => e = .returned (.int .i64 (ordL la lb)) ∧ w' = w := by
 have hr := run_cmp ha hb
 clear ha hb
 go_enter Tryz.func113, Tryz.ntmps113
 go_wp2
 rw [run_callFunc_extern Tryz.func139 (by kernel_rfl) (by kernel_rfl) (by kernel_rfl) (e := Extern.BytealgCompare.compare) (by kernel_rfl), hr]
 simp only [Result.andThen]
 rw [Oper.upon_value]
 go_wp2
 go_ret
 exact ⟨rfl, rfl⟩
theorem rise_any (ao bo : Option Addr) (n m c d : Nat) (la lb : List Int) (w : World) (ha : Sl w ao n c la) (hb : Sl w bo m d lb) :
  Calls Tryz.prog 82 #[.slice ao n c, .slice bo m d] w fun e w' => e = .returned (.bool (decide (kl la lb))) ∧ w' = w := by
 have hr := compare_any ao bo n m c d la lb w ha hb
 have hq : decide (kl la lb) = decide (ordL la lb < 0) := by
  have := ordL_three la lb
  refine decide_eq_decide.2 ?_
  unfold kl
  omega
 rw [hq]
 clear ha hb hq
 generalize ordL la lb = x at *
 go_enter Tryz.func82, Tryz.ntmps82
 go_wp2_with (go_at_call 113; refine same_call hr ?_)
 go_ret
 exact ⟨rfl, rfl⟩
end Go.Proofs.YtlhkinlgolcpaaaGreatDoor

namespace Go.Proofs.YtlhkinlgolcpaaaGreatDoor
set_option maxRecDepth 100000
open Go.RowKit
structure Cf (F : Nat → Prop) (w w' : World) : Prop where
 os : w'.os = w.os
 tape : w'.tape = w.tape
 output : w'.output = w.output
 size : w.heap.size ≤ w'.heap.size
 block : ∀ k, k < w.heap.size → ¬ F k → w'.heap[k]? = w.heap[k]?
theorem Cf.refl (F : Nat → Prop) (w : World) : Cf F w w := ⟨rfl, rfl, rfl, Nat.le_refl _, fun _ _ _ => rfl⟩
theorem Cf.trans {F G : Nat → Prop} {a b c : World} (h : Cf F a b) (k : Cf G b c) (hG : ∀ i, i < a.heap.size → G i → F i) : Cf F a c :=
 ⟨k.os.trans h.os, k.tape.trans h.tape, k.output.trans h.output, Nat.le_trans h.size k.size, fun i hi hf => (k.block i (Nat.lt_of_lt_of_le hi h.size) fun g => hf (hG i hi g)).trans (h.block i hi hf)⟩
theorem Cf.go {F : Nat → Prop} {a b c : World} (h : Cf F a b) (k : Cf F b c) : Cf F a c := h.trans k fun _ _ g => g
theorem Cf.of_below {F : Nat → Prop} {a b : World} (h : Below a.heap.size a b) : Cf F a b := ⟨h.os, h.tape, h.output, h.size, fun k hk _ => h.block k hk⟩
theorem Cf.below {F : Nat → Prop} {a b : World} {B : Nat} (h : Cf F a b) (hB : B ≤ a.heap.size) (hF : ∀ k, k < B → ¬ F k) : Below B a b := ⟨h.os, h.tape, h.output, h.size, fun k hk => h.block k (by omega) (hF k hk)⟩
theorem Cf.alloc (F : Nat → Prop) (w : World) (o : Obj) : Cf F w (w.alloc o) := ⟨rfl, rfl, rfl, by simp, fun k hk _ => Below.heap_alloc _ _ _ hk⟩
theorem Cf.setCell {F : Nat → Prop} (w : World) {p : Addr} (hp : F p.block) (u : Value) : Cf F w (w.setCell p u) :=
 ⟨rfl, rfl, rfl, by simp [World.setCell], fun k _ hk => Below.heap_setCell _ _ _ _ fun e => hk (e ▸ hp)⟩
theorem Cf.set (w : World) (r k : Nat) (u : Value) : Cf (· = r) w (w.setCell ⟨r, k, none⟩ u) := Cf.setCell (F := (· = r)) w (p := ⟨r, k, none⟩) rfl u
theorem Cf.drew (F : Nat → Prop) (w : World) (n : Nat) : Cf F w (w.drewN n) := ⟨rfl, rfl, rfl, Nat.le_refl _, fun _ _ _ => rfl⟩
def Rd (w : World) (r : Nat) (ao : Option Addr) (n cap at_ : Nat) (en : Bool) : Prop := w.heap[r]? = some (.cells #[.slice ao n cap, .int .i64 (at_ : Int), .bool en] 123 (0, 0))
theorem Rd.c0 {w : World} {r : Nat} {ao : Option Addr} {n cap at_ : Nat} {en : Bool} (h : Rd w r ao n cap at_ en) : w.cell? ⟨r, 0, none⟩ = some (.slice ao n cap) := by rw [cell_of_row _ _ 0 _ _ _ h]; rfl
theorem Rd.c1 {w : World} {r : Nat} {ao : Option Addr} {n cap at_ : Nat} {en : Bool} (h : Rd w r ao n cap at_ en) : w.cell? ⟨r, 1, none⟩ = some (.int .i64 (at_ : Int)) := by rw [cell_of_row _ _ 1 _ _ _ h]; rfl
theorem Rd.c2 {w : World} {r : Nat} {ao : Option Addr} {n cap at_ : Nat} {en : Bool} (h : Rd w r ao n cap at_ en) : w.cell? ⟨r, 2, none⟩ = some (.bool en) := by rw [cell_of_row _ _ 2 _ _ _ h]; rfl
theorem Rd.free {w : World} {r : Nat} {ao : Option Addr} {n cap at_ : Nat} {en : Bool} (h : Rd w r ao n cap at_ en) (k : Nat) : w.frozen? ⟨r, k, none⟩ = false := by
 unfold Rd at h
 simp [World.frozen?, h]
theorem Rd.drewN {w : World} {r : Nat} {ao : Option Addr} {n cap at_ : Nat} {en : Bool} (h : Rd w r ao n cap at_ en) (q : Nat) : Rd (w.drewN q) r ao n cap at_ en := h
theorem Rd.lt {w : World} {r : Nat} {ao : Option Addr} {n cap at_ : Nat} {en : Bool} (h : Rd w r ao n cap at_ en) : r < w.heap.size := lt_some h
theorem Rd.set1 {w : World} {r : Nat} {ao : Option Addr} {n cap at_ : Nat} {en : Bool} (h : Rd w r ao n cap at_ en) (x : Nat) : Rd (w.setCell ⟨r, 1, none⟩ (.int .i64 (x : Int))) r ao n cap x en := by
 unfold Rd at *
 have := set_row (w := w) (a := r) (cs := [.slice ao n cap, .int .i64 (at_ : Int), .bool en]) (i := 1) (u := .int .i64 (x : Int)) h
 simpa using this
theorem Rd.set2 {w : World} {r : Nat} {ao : Option Addr} {n cap at_ : Nat} {en : Bool} (h : Rd w r ao n cap at_ en) (x : Bool) : Rd (w.setCell ⟨r, 2, none⟩ (.bool x)) r ao n cap at_ x := by
 unfold Rd at *
 have := set_row (w := w) (a := r) (cs := [.slice ao n cap, .int .i64 (at_ : Int), .bool en]) (i := 2) (u := .bool x) h
 simpa using this
theorem Sl.apart {w : World} {ao : Option Addr} {n cap : Nat} {l : List Int} (h : Sl w ao n cap l) {r : Nat} {a : Option Addr} {b c d : Nat} {en : Bool} (hr : Rd w r a b c d en) : n = 0 ∨ ∀ p, ao = some p → p.block ≠ r := by
 rcases h.hat with h0 | ⟨g, off, rfl, hg, hc⟩
 ·exact .inl h0
 ·rcases Nat.eq_zero_or_pos n with h0 | h0
  ·exact .inl h0
  ·right
   rintro p hp rfl
   injection hp with hp
   subst hp
   have h1 := hc 0 h0
   rw [cell_of_row _ _ _ _ _ _ hr] at h1
   rcases Nat.lt_or_ge (off + 0) 3 with h3 | h3
   ·have h4 : off + 0 = 0 ∨ off + 0 = 1 ∨ off + 0 = 2 := by omega
    rcases h4 with h4 | h4 | h4 <;> (rw [h4] at h1; simp at h1)
   ·rw [Array.getElem?_eq_none (by simpa using h3)] at h1
    cases h1
theorem Sl.cf {w w' : World} {ao : Option Addr} {n cap : Nat} {l : List Int} {F : Nat → Prop} (h : Sl w ao n cap l) (hc : Cf F w w') (hf : n = 0 ∨ ∀ p, ao = some p → ¬ F p.block) : Sl w' ao n cap l := by
 refine ⟨h.hlen, h.hcap, h.hroom, h.wf, h.hnil, ?_⟩
 rcases h.hat with h0 | ⟨b, off, e, hlt, hcl⟩
 ·exact .inl h0
 ·rcases hf with h0 | hf
  ·exact .inl h0
  ·refine .inr ⟨b, off, e, Nat.lt_of_lt_of_le hlt hc.size, fun i hi => ?_⟩
   have := hc.block b hlt (hf _ e)
   rw [← hcl i hi]
   simp only [World.cell?, this]
def NumTo (x : Nat) (l : List Int) (w : World) (r : Nat) (ao : Option Addr) (n cap at_ : Nat) (en : Bool) (e : Ending) (w' : World) : Prop :=
 ∃ (v : Int) (p : Nat) (en' : Bool), e = .returned (.int .i64 v) ∧ Hid (Rd w' r ao n cap p en') ∧ Hid (Cf (· = r) w w') ∧ Hid ((0 ≤ v ∧ v < 256 ^ x) ∧ p ≤ n ∧ ((pNum x (l.drop at_) = some (v, l.drop p) ∧ en' = en) ∨ (pNum x (l.drop at_) = none ∧ en' = true ∧ v = 0 ∧ p = at_)))
set_option maxHeartbeats 1000000 in
theorem number_any (x : Nat) (l : List Int) (w : World) (r : Nat) (ao : Option Addr) (n cap at_ : Nat) (en : Bool) (hx : x = 1 ∨ x = 2 ∨ x = 4) (hr : Rd w r ao n cap at_ en) (hs : Sl w ao n cap l) (ha : at_ ≤ n) :
  Calls Tryz.prog 151 #[.pointer (some ⟨r, 0, none⟩), .int .i64 (x : Int)] w fun e w' => NumTo x l w r ao n cap at_ en e w' := by
 have c0 := hr.c0
 have c1 := hr.c1
 have c2 := hr.c2
 have f1 := hr.free 1
 have f2 := hr.free 2
 have hn := hs.hroom
 have HR := hidden hr
 have hlen := hs.hlen
 have hx0 : 1 ≤ (x : Int) ∧ (x : Int) ≤ 8 := by omega
 by_cases h : x ≤ n - at_
 ·have HF : Hid (∀ q, Calls Tryz.prog 164 #[.slice ao n cap, .int .i64 (at_ : Int), .int .i64 (x : Int)] (w.drewN q) fun e w' => e = .returned (.tuple #[.int .u64 (rdB ((l.drop at_).take x)), .int .i64 0]) ∧ w' = w.drewN q) :=
   hidden fun q => by simpa using readFixed_ok ao n cap l (at_ : Int) (x : Int) (w.drewN q) (hs.drewN q) hx0.1 hx0.2 (by omega) (by omega)
  have hp : pNum x (l.drop at_) = some (rdB ((l.drop at_).take x), l.drop (at_ + x)) := by
   unfold pNum
   rw [if_neg (by rw [List.length_drop]; omega), List.drop_drop]
  have hb := rdB_bound ((l.drop at_).take x) ((hs.wf.drop at_).take x)
  rw [show ((l.drop at_).take x).length = x from by rw [List.length_take, List.length_drop]; omega] at hb
  have HB := hidden hb
  have hb8 : rdB ((l.drop at_).take x) < 4294967296 := by rcases hx with rfl | rfl | rfl <;> omega
  generalize rdB ((l.drop at_).take x) = v at *
  have hv0 := hb.1
  have HP := hidden hp
  clear hp hb hs
  have hw : wrap64 v = v := by simp [wrap64]; omega
  have HS : ∀ q, Hid (Rd ((w.drewN q).setCell ⟨r, 1, none⟩ (.int .i64 ((at_ + x : Nat) : Int))) r ao n cap (at_ + x) en) := fun q => hidden (Rd.set1 (HR.out.drewN q) (at_ + x))
  go_enter Tryz.func151, Tryz.ntmps151
  go_wp2_with fail
  go_quiet (first | (go_at_call 164; exact Calls.quiet_of_same (HF.out _)))
  go_wp2
  go_ret
  exact ⟨v, at_ + x, en, rfl, by simpa using HS _, hidden ((Cf.drew _ _ _).go (Cf.set _ _ _ _)), hidden ⟨HB.out, by omega, .inl ⟨HP.out, rfl⟩⟩⟩
 ·have HF : Hid (∀ q, Calls Tryz.prog 164 #[.slice ao n cap, .int .i64 (at_ : Int), .int .i64 (x : Int)] (w.drewN q) fun e w' => e = .returned (.tuple #[.int .u64 0, .int .i64 10]) ∧ w' = w.drewN q) :=
   hidden fun q => by simpa using readFixed_short ao n cap (at_ : Int) (x : Int) (w.drewN q) hx0.1 hx0.2 (by omega) (by omega) (by omega)
  have hp : pNum x (l.drop at_) = none := by
   unfold pNum
   rw [if_pos (by rw [List.length_drop]; omega)]
  have HP := hidden hp
  clear hp hs
  go_enter Tryz.func151, Tryz.ntmps151
  go_wp2_with fail
  go_quiet (first | (go_at_call 164; exact Calls.quiet_of_same (HF.out _)))
  go_wp2
  go_ret
  exact ⟨0, at_, true, rfl, hidden (Rd.set2 (HR.out.drewN _) true), hidden ((Cf.drew _ _ _).go (Cf.set _ _ _ _)), hidden ⟨⟨by omega, Int.pow_pos (by omega)⟩, ha, .inr ⟨HP.out, rfl, rfl, rfl⟩⟩⟩
end Go.Proofs.YtlhkinlgolcpaaaGreatDoor
