import Derived.Test.YtjpmfgoodcldcaaGreatDoorJ05
import Derived.Test.YtjpmfgoodcldcaaGreatDoorJ04
namespace Go.Proofs.YtjpmfgoodcldcaaGreatDoor
set_option maxRecDepth 100000
open Go.RowKit
def Bk (w : World) (g : Nat) (l : List Int) : Prop := w.heap[g]? = some (.cells (By l).toArray 5 (0, 0))
theorem Bk.on {w w' : World} {g : Nat} {l : List Int} (h : Bk w g l) (hb : Below w.heap.size w w') : Bk w' g l := (hb.block _ (lt_some h)).trans h
theorem set_row {w : World} {a i : Nat} {cs : List Value} {t : TypeId} {u : Value} (h : w.heap[a]? = some (.cells cs.toArray t (0, 0))) : (w.setCell ⟨a, i, none⟩ u).heap[a]? = some (.cells (cs.set i u).toArray t (0, 0)) := by
 have := setCell_eq_setRow w a i cs.toArray t (0, 0) u h
 rw [this, setRow_heap w a _ _ t _ h]
 simp
theorem Bk.cell {w : World} {g : Nat} {l : List Int} (h : Bk w g l) (k : Nat) (hk : k < l.length) : w.cell? ⟨g, k, none⟩ = some (.int .u8 (l.getD k 0)) := by
 rw [cell_of_row _ _ k _ _ _ h]
 simp [By, List.getElem?_eq_getElem hk, List.getD]
theorem Bk.free {w : World} {g : Nat} {l : List Int} (h : Bk w g l) (k : Nat) : w.frozen? ⟨g, k, none⟩ = false := by
 unfold Bk at h
 simp [World.frozen?, h]
theorem Bk.sl {w : World} {g n : Nat} {l : List Int} (h : Bk w g l) (hl : l.length = n) (hw : Wf l) (hn : n ≤ 140737488355328) : Sl w (some ⟨g, 0, none⟩) n n l :=
 ⟨hl, Nat.le_refl _, hn, hw, (by intro h; cases h), .inr ⟨g, 0, rfl, lt_some h, fun i hi => by rw [Nat.zero_add]; exact h.cell i (by omega)⟩⟩
theorem Sl.alloc5 {w : World} {ao : Option Addr} {n cap : Nat} {l : List Int} (h : Sl w ao n cap l) (o : Obj) : Sl (w.alloc o) ao n cap l := h.on (Nat.le_refl _) ((Below.refl _ _).alloc (Nat.le_refl _) o)
theorem lit_cell5 (w : World) (cs : Array Value) (t : TypeId) (f : Nat × Nat) (i B : Nat) (hB : w.heap.size = B) : (w.alloc (.cells cs t f)).cell? ⟨B, i, none⟩ = cs[i]? := by
 subst hB
 unfold World.cell?
 rw [show (w.alloc (.cells cs t f)).heap[w.heap.size]? = some (.cells cs t f) from heap_alloc_new w _]
 rfl
theorem sls_one5 (w : World) (a : Option Addr) (n c : Nat) (la : List Int) (ha : Sl w a n c la) (B : Nat) (hB : w.heap.size = B) : SlS (w.alloc (.cells #[.slice a n c] 30)) (some ⟨B, 0, none⟩) 1 1 [la] := by
 refine ⟨rfl, Nat.le_refl _, by omega, (by intro h; cases h), .inr ⟨B, 0, rfl, by simp; omega, fun i hi => ?_⟩⟩
 obtain rfl : i = 0 := by omega
 exact ⟨a, n, c, lit_cell5 _ _ _ _ _ _ hB, ha.alloc5 _⟩
theorem SlS.drew5 {w : World} {ao : Option Addr} {n cap : Nat} {ls : List (List Int)} (h : SlS w ao n cap ls) : SlS w.drew ao n cap ls := by
 refine ⟨h.hlen, h.hcap, h.hroom, h.hnil, ?_⟩
 rcases h.hat with h0 | ⟨b, off, e, hb, hc⟩
 ·exact .inl h0
 ·refine .inr ⟨b, off, e, hb, fun i hi => ?_⟩
  obtain ⟨a, m, c, h1, h2⟩ := hc i hi
  exact ⟨a, m, c, h1, h2.on (Nat.le_refl _) (Below.refl _ _).drew⟩
end Go.Proofs.YtjpmfgoodcldcaaGreatDoor

namespace Go.Proofs.YtjpmfgoodcldcaaGreatDoor
set_option maxRecDepth 100000
open Go.RowKit
def leadsN (pg ct lo hi : Int) : Prop := (2 ≤ pg ∧ pg ≤ 65535) ∧ (lo ≤ ct ∧ ct ≤ hi)
def leafN (page : Int) (kd : Int) (vn : Nat) (pg ct : Int) : Prop :=
 (kd = 1 ∧ (vn : Int) ≤ page / 16 * 3 ∧ (pg = 0 ∧ ct = 0)) ∨ (kd = 2 ∧ vn = 0 ∧ leadsN pg ct (page / 16 * 3 + 1) 65536) ∨ (kd = 4 ∧ vn = 0 ∧ ((pg = 0 ∧ ct = 0) ∨ leadsN pg ct 1 1073741824))
def mayN (kind page : Int) (kn : Nat) (kd : Int) (vn : Nat) (pg ct : Int) : Prop :=
 (kn : Int) ≤ page / 8 ∧ ((kind = 3 ∧ kd = 3 ∧ vn = 0 ∧ leadsN pg ct 1 1073741824) ∨ (kind ≠ 3 ∧ 0 < kn ∧ leafN page kd vn pg ct))
theorem mayP_iff (k p : Int) (c : Cl) : mayN k p c.key.length c.kd c.val.length c.pg c.ct ↔ mayP k p c := by
 simp only [mayN, mayP, leafN, leadsN, leadsP, nowhere, List.length_eq_zero_iff]
theorem ret_bool {b c : Bool} (h : b = c) : Ending.returned (.bool b) = .returned (.bool c) := by rw [h]
theorem within_any (n lo hi : Int) (w : World) : Calls Tryz.prog 111 #[.int .i64 n, .int .i64 lo, .int .i64 hi] w fun e w' => e = .returned (.bool (decide (lo ≤ n ∧ n ≤ hi))) ∧ w' = w := by
 go_enter Tryz.func111, Tryz.ntmps111
 go_wp2
 all_goals go_ret
 all_goals refine ⟨ret_bool ?_, rfl⟩
 all_goals (rw [Bool.eq_iff_iff]; first | (simp; done) | (simp; omega) | (simp_all; done) | (simp_all; omega))
theorem isKind_any (k : Int) (w : World) : Calls Tryz.prog 83 #[.int .i64 k] w fun e w' => e = .returned (.bool (decide (isKd k))) ∧ w' = w := by
 go_enter Tryz.func83, Tryz.ntmps83
 go_wp2
 all_goals go_ret
 all_goals refine ⟨ret_bool ?_, rfl⟩
 all_goals (rw [Bool.eq_iff_iff]; first | (simp [isKd]; done) | (simp [isKd]; omega) | (simp_all [isKd]; done) | (simp_all [isKd]; omega))
theorem mostKey_any (p : Int) (w : World) (h0 : 0 ≤ p) (h1 : p ≤ 65536) : Calls Tryz.prog 99 #[.int .i64 p] w fun e w' => e = .returned (.int .i64 (p / 8)) ∧ w' = w := by
 go_enter Tryz.func99, Tryz.ntmps99
 go_wp2
 go_ret
 exact ⟨rfl, rfl⟩
theorem mostValue_any (p : Int) (w : World) (h0 : 0 ≤ p) (h1 : p ≤ 65536) : Calls Tryz.prog 125 #[.int .i64 p] w fun e w' => e = .returned (.int .i64 (p / 16 * 3)) ∧ w' = w := by
 go_enter Tryz.func125, Tryz.ntmps125
 go_wp2
 go_ret
 exact ⟨rfl, rfl⟩
theorem isSize_any (p : Int) (w : World) : Calls Tryz.prog 84 #[.int .i64 p] w fun e w' => e = .returned (.bool (decide (pw p))) ∧ w' = w := by
 by_cases h : 512 ≤ p ∧ p ≤ 65536
 ·have hp := pow_iff p h.1 h.2
  have h1 := h.1
  have h2 := h.2
  have e : decide (512 ≤ p ∧ p ≤ 65536) = true := by simpa using h
  obtain ⟨z, hz⟩ : ∃ z, bits .and .i64 p (p - 1) = z := ⟨_, rfl⟩
  rw [hz] at hp
  rw [show decide (pw p) = decide (z = 0) from by simp [hp]]
  clear hp
  go_enter Tryz.func84, Tryz.ntmps84
  go_wp2_with (go_at_call 111; refine same_call (within_any _ _ _ _) ?_; rw [e])
  all_goals go_ret
  all_goals refine ⟨?_, rfl⟩
  all_goals (congr 2 <;> simp)
 ·have e : decide (512 ≤ p ∧ p ≤ 65536) = false := by simpa using h
  have e2 : decide (pw p) = false := by
   rw [decide_eq_false_iff_not]
   exact fun hq => h (pw_le hq)
  rw [e2]
  go_enter Tryz.func84, Tryz.ntmps84
  go_wp2_with (go_at_call 111; refine same_call (within_any _ _ _ _) ?_; rw [e])
  go_ret
  exact ⟨rfl, rfl⟩
theorem leadsNowhere_any (ka : Option Addr) (kn kc : Nat) (kd : Int) (va : Option Addr) (vn vc : Nat) (pg ct : Int) (w : World) :
  Calls Tryz.prog 126 #[.agg #[.slice ka kn kc, .int .i64 kd, .slice va vn vc, .int .i64 pg, .int .i64 ct]] w fun e w' => e = .returned (.bool (decide (pg = 0 ∧ ct = 0))) ∧ Below w.heap.size w w' := by
 go_enter Tryz.func126, Tryz.ntmps126
 go_wp2
 all_goals go_ret
 all_goals refine ⟨ret_bool ?_, (Below.refl _ _).alloc (Nat.le_refl _) _⟩
 all_goals (rw [Bool.eq_iff_iff]; first | (simp; done) | (simp; omega) | (simp_all; done) | (simp_all; omega))
instance (a b c d : Int) : Decidable (leadsN a b c d) := by unfold leadsN; infer_instance
theorem leads_any (ka : Option Addr) (kn kc : Nat) (kd : Int) (va : Option Addr) (vn vc : Nat) (pg ct lo hi : Int) (w : World) :
  Calls Tryz.prog 100 #[.agg #[.slice ka kn kc, .int .i64 kd, .slice va vn vc, .int .i64 pg, .int .i64 ct], .int .i64 lo, .int .i64 hi] w fun e w' => e = .returned (.bool (decide (leadsN pg ct lo hi))) ∧ Below w.heap.size w w' := by
 have hq : decide (leadsN pg ct lo hi) = (decide (2 ≤ pg ∧ pg ≤ 65535) && decide (lo ≤ ct ∧ ct ≤ hi)) := by rw [Bool.eq_iff_iff, decide_eq_true_iff]; simp [leadsN]
 rw [hq]
 cases h1 : decide (2 ≤ pg ∧ pg ≤ 65535)
 ·go_enter Tryz.func100, Tryz.ntmps100
  go_wp2_with (go_at_call 111; refine same_call (within_any _ _ _ _) ?_; rw [h1])
  go_ret
  exact ⟨rfl, (Below.refl _ _).alloc (Nat.le_refl _) _⟩
 ·have W2 := fun u => within_any ct lo hi u
  cases h2 : decide (lo ≤ ct ∧ ct ≤ hi)
  all_goals
   go_enter Tryz.func100, Tryz.ntmps100
   go_wp2_with (go_at_call 111; refine same_call (within_any _ _ _ _) ?_; first | rw [h1] | rw [h2])
   go_ret
   exact ⟨rfl, (Below.refl _ _).alloc (Nat.le_refl _) _⟩
end Go.Proofs.YtjpmfgoodcldcaaGreatDoor
