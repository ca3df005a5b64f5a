import Derived.Test.YtbkhjeacmmbabaaGreatDoorJ02
import Derived.Lib.BytesEntry
import Derived.Laws.Externs
namespace Go.Proofs.YtbkhjeacmmbabaaGreatDoor
set_option maxRecDepth 100000
set_option maxHeartbeats 1000000
open Go.RowKit
theorem box5 {w w1 : World} {x0 x1 x2 x3 x4 : Value} {t : TypeId} (hb : Below (w.alloc (.cells #[x0, x1, x2, x3, x4] t)).heap.size (w.alloc (.cells #[x0, x1, x2, x3, x4] t)) w1) :
  w1.cell? ⟨w.heap.size, 0, none⟩ = some x0 ∧ w1.cell? ⟨w.heap.size, 1, none⟩ = some x1 ∧ w1.cell? ⟨w.heap.size, 2, none⟩ = some x2 ∧ w1.cell? ⟨w.heap.size, 3, none⟩ = some x3 ∧ w1.cell? ⟨w.heap.size, 4, none⟩ = some x4 := by
 have hl : w.heap.size < (w.alloc (.cells #[x0, x1, x2, x3, x4] t)).heap.size := by simp
 refine ⟨(hb.cell (p := ⟨w.heap.size, 0, none⟩) hl).trans zv, (hb.cell (p := ⟨w.heap.size, 1, none⟩) hl).trans zv, (hb.cell (p := ⟨w.heap.size, 2, none⟩) hl).trans zv, (hb.cell (p := ⟨w.heap.size, 3, none⟩) hl).trans zv, (hb.cell (p := ⟨w.heap.size, 4, none⟩) hl).trans zv⟩
theorem al5 {w w1 : World} {o : Obj} (hb : Below (w.alloc o).heap.size (w.alloc o) w1) : Below w.heap.size w w1 := zae (zab (Below.refl _ w) Lr _) Lr hb
instance (p k : Int) (v : Nat) (a b : Int) : Decidable (zbh p k v a b) := by unfold zbh; infer_instance
instance (k p : Int) (n : Nat) (kd : Int) (v : Nat) (a b : Int) : Decidable (mayN k p n kd v a b) := by unfold mayN; infer_instance
theorem inLeaf_any (page : Int) (ka : Option Addr) (kn kc : Nat) (kd : Int) (va : Option Addr) (vn vc : Nat) (pg ct : Int) (w : World) (h0 : 0 ≤ page) (h1 : page ≤ 65536) (hv : vn ≤ 140737488355328) :
  Calls Tryz.prog 110 #[.int .i64 page, .agg #[.slice ka kn kc, .int .i64 kd, .slice va vn vc, .int .i64 pg, .int .i64 ct]] w fun e w' => e = .returned (.bool (decide (zbh page kd vn pg ct))) ∧ Below w.heap.size w w' := by
 have hm : 0 ≤ page / 16 * 3 ∧ page / 16 * 3 ≤ 65535 := zq
 have A := (Below.refl w.heap.size w).alloc Lr (.cells #[.slice ka kn kc, .int .i64 kd, .slice va vn vc, .int .i64 pg, .int .i64 ct] 50)
 by_cases k1 : kd = 1
 ·have hq : decide (zbh page kd vn pg ct) = (decide ((vn : Int) ≤ page / 16 * 3) && decide (pg = 0 ∧ ct = 0)) := by rw [Bool.eq_iff_iff, zQ]; simp [zbh, k1]
  rw [hq]
  subst k1
  clear hq
  by_cases h : (vn : Int) ≤ page / 16 * 3
  ·rw [decide_eq_true h, Bool.true_and]
   have d1 : decide ((vn : Int) ≤ page / 16 * 3) = true := decide_eq_true h
   cases hr : decide (pg = 0 ∧ ct = 0)
   all_goals
    go_enter Tryz.func110, Tryz.ntmps110
    go_wp2_with fail
    go_region_with (first | (go_at_call 33; refine zad (zcd _ _ h0 h1) ?_) | (go_at_call 145; refine (zdq _ _ _ _ _ _ _ _ _ _).mono ?_; rintro e w1 ⟨rfl, B⟩; have C := zae (show Below w.heap.size w _ from by first | exact A | exact A.drew | exact zac A _ | exact (zac A _).drew | go_grown) Lr B; rw [hr]))
    all_goals (try go_wp2); all_goals (go_ret; exact ⟨rfl, by first | exact C | exact C.drew | exact zac C _⟩)
  ·rw [decide_eq_false h, Bool.false_and]
   have d1 : decide ((vn : Int) ≤ page / 16 * 3) = false := decide_eq_false h
   go_enter Tryz.func110, Tryz.ntmps110
   go_wp2_with fail
   go_quiet (first | (go_at_call 33; exact Calls.quiet_of_same (zcd _ _ h0 h1)))
   go_wp2
   go_ret
   exact ⟨rfl, by first | exact A | exact zac A _⟩
 ·by_cases hz : vn = 0
  ·subst hz
   by_cases k2 : kd = 2
   ·have hq : decide (zbh page kd 0 pg ct) = decide (zbn pg ct (page / 16 * 3 + 1) 65536) := by rw [Bool.eq_iff_iff, zQ]; simp [zbh, k2]
    rw [hq]
    subst k2
    clear hq
    have D : IntKind.i64.wrap (page / 16 * 3 + 1) = page / 16 * 3 + 1 := by rw [IntKind.wrap_i64]; omega
    have E : wrap64 (page / 16 * 3 + 1) = page / 16 * 3 + 1 := by simp [wrap64]; omega
    generalize hr : decide (zbn pg ct (page / 16 * 3 + 1) 65536) = r
    go_enter Tryz.func110, Tryz.ntmps110
    go_wp2_with fail
    go_region_with (first | (go_at_call 33; refine zad (zcd _ _ h0 h1) ?_) | (go_at_call 109; refine (leads_any _ _ _ _ _ _ _ _ _ _ _ _).mono ?_; rintro e w1 ⟨rfl, B⟩; have C := zae (show Below w.heap.size w _ from by first | exact A | exact A.drew | exact zac A _ | exact (zac A _).drew | go_grown) Lr B; first | rw [hr] | rw [D, hr] | rw [E, hr]))
    all_goals (try go_wp2); all_goals (go_ret; exact ⟨rfl, by first | exact C | exact C.drew | exact zac C _⟩)
   ·by_cases k4 : kd = 4
    ·have hq : decide (zbh page kd 0 pg ct) = (decide (pg = 0 ∧ ct = 0) || decide (zbn pg ct 1 1073741824)) := by rw [Bool.eq_iff_iff, zQ]; simp [zbh, k4]
     rw [hq]
     subst k4
     clear hq
     cases hr : decide (pg = 0 ∧ ct = 0)
     ·cases hs : decide (zbn pg ct 1 1073741824)
      all_goals
       go_enter Tryz.func110, Tryz.ntmps110
       go_wp2_with (first | (go_at_call 145; refine (zdq _ _ _ _ _ _ _ _ _ _).mono ?_; rintro e w1 ⟨rfl, B⟩; rw [hr]; obtain ⟨c0, c1, c2, c3, c4⟩ := box5 B) | (go_at_call 109; refine (leads_any _ _ _ _ _ _ _ _ _ _ _ _).mono ?_; rintro e w2 ⟨rfl, F⟩; rw [hs]))
       go_ret
       exact ⟨rfl, zae (al5 B) Lr F⟩
     ·go_enter Tryz.func110, Tryz.ntmps110
      go_wp2_with (go_at_call 145; refine (zdq _ _ _ _ _ _ _ _ _ _).mono ?_; rintro e w1 ⟨rfl, B⟩; rw [hr])
      go_ret
      exact ⟨rfl, al5 B⟩
    ·have hq : decide (zbh page kd 0 pg ct) = false := by rw [zP]; simp [zbh, k1, k2, k4]
     rw [hq]
     clear hq
     go_enter Tryz.func110, Tryz.ntmps110
     go_wp2
     go_ret
     exact ⟨rfl, A⟩
  ·have hq : decide (zbh page kd vn pg ct) = false := by rw [zP]; simp [zbh, k1, hz]
   rw [hq]
   clear hq
   have hz' : 0 < (vn : Int) := zq
   go_enter Tryz.func110, Tryz.ntmps110
   go_wp2
   go_ret
   exact ⟨rfl, A⟩
theorem mayBe_any (kind page : Int) (ka : Option Addr) (kn kc : Nat) (kd : Int) (va : Option Addr) (vn vc : Nat) (pg ct : Int) (w : World) (h0 : 0 ≤ page) (h1 : page ≤ 65536) (hk : kn ≤ 140737488355328) (hv : vn ≤ 140737488355328) :
  Calls Tryz.prog 71 #[.int .i64 kind, .int .i64 page, .agg #[.slice ka kn kc, .int .i64 kd, .slice va vn vc, .int .i64 pg, .int .i64 ct]] w fun e w' => e = .returned (.bool (decide (mayN kind page kn kd vn pg ct))) ∧ Below w.heap.size w w' := by
 have hm : 0 ≤ page / 8 ∧ page / 8 ≤ 65535 := zq
 have A := (Below.refl w.heap.size w).alloc Lr (.cells #[.slice ka kn kc, .int .i64 kd, .slice va vn vc, .int .i64 pg, .int .i64 ct] 50)
 by_cases h : (kn : Int) ≤ page / 8
 ·have d1 : decide (page / 8 < (kn : Int)) = false := decide_eq_false zq
  by_cases k3 : kind = 3
  ·have hq : decide (mayN kind page kn kd vn pg ct) = (decide (kd = 3) && (decide (vn = 0) && decide (zbn pg ct 1 1073741824))) := by rw [Bool.eq_iff_iff, zQ]; simp [mayN, h, k3]
   rw [hq]
   subst k3
   clear hq
   by_cases d3 : kd = 3
   ·subst d3
    by_cases hz : vn = 0
    ·subst hz
     cases hs : decide (zbn pg ct 1 1073741824)
     all_goals
      go_enter Tryz.func71, Tryz.ntmps71
      go_wp2_with fail
      go_quiet (first | (go_at_call 33; exact Calls.quiet_of_same (zcd _ _ h0 h1)) | (go_at_call 32; exact Calls.quiet_of_same (zcw _ _ h0 h1)))
      go_wp2_with (go_at_call 109; refine (leads_any _ _ _ _ _ _ _ _ _ _ _ _).mono ?_; rintro e w1 ⟨rfl, C⟩; have B := zae (show Below w.heap.size w _ from by first | exact A | exact A.drew | exact zac A _ | exact (zac A _).drew | go_grown) Lr C; rw [hs])
      all_goals (try go_wp2); all_goals (go_ret; exact ⟨rfl, by first | exact B | exact B.drew | exact zac B _⟩)
    ·have hz' : 0 < (vn : Int) := zq
     have D : ¬ (vn : Int) = 0 := zq
     rw [decide_eq_false hz]
     go_enter Tryz.func71, Tryz.ntmps71
     go_wp2_with fail
     go_quiet (first | (go_at_call 33; exact Calls.quiet_of_same (zcd _ _ h0 h1)) | (go_at_call 32; exact Calls.quiet_of_same (zcw _ _ h0 h1)))
     go_wp2
     go_ret
     exact ⟨rfl, by first | exact A | exact zac A _⟩
   ·rw [decide_eq_false d3]
    go_enter Tryz.func71, Tryz.ntmps71
    go_wp2_with fail
    go_quiet (first | (go_at_call 33; exact Calls.quiet_of_same (zcd _ _ h0 h1)) | (go_at_call 32; exact Calls.quiet_of_same (zcw _ _ h0 h1)))
    go_wp2
    go_ret
    exact ⟨rfl, by first | exact A | exact zac A _⟩
  ·have hq : decide (mayN kind page kn kd vn pg ct) = (decide (0 < kn) && decide (zbh page kd vn pg ct)) := by rw [Bool.eq_iff_iff, zQ]; simp [mayN, h, k3]
   rw [hq]
   clear hq
   by_cases hz : 0 < kn
   ·have hz' : 0 < (kn : Int) := zq
    rw [decide_eq_true hz]
    cases hs : decide (zbh page kd vn pg ct)
    all_goals
     go_enter Tryz.func71, Tryz.ntmps71
     go_wp2_with fail
     go_quiet (first | (go_at_call 33; exact Calls.quiet_of_same (zcd _ _ h0 h1)) | (go_at_call 32; exact Calls.quiet_of_same (zcw _ _ h0 h1)))
     go_wp2_with (go_at_call 110; refine (inLeaf_any _ _ _ _ _ _ _ _ _ _ _ h0 h1 hv).mono ?_; rintro e w1 ⟨rfl, C⟩; have B := zae (show Below w.heap.size w _ from by first | exact A | exact A.drew | exact zac A _ | exact (zac A _).drew | go_grown) Lr C; rw [hs])
     all_goals (try go_wp2); all_goals (go_ret; exact ⟨rfl, by first | exact B | exact B.drew | exact zac B _⟩)
   ·obtain rfl : kn = 0 := zq
    go_enter Tryz.func71, Tryz.ntmps71
    go_wp2_with fail
    go_quiet (first | (go_at_call 33; exact Calls.quiet_of_same (zcd _ _ h0 h1)) | (go_at_call 32; exact Calls.quiet_of_same (zcw _ _ h0 h1)))
    go_wp2
    go_ret
    exact ⟨rfl, by first | exact A | exact zac A _⟩
 ·have d1 : decide (page / 8 < (kn : Int)) = true := decide_eq_true zq
  have hq : decide (mayN kind page kn kd vn pg ct) = false := by rw [zP]; simp [mayN, h]
  rw [hq]
  clear hq
  go_enter Tryz.func71, Tryz.ntmps71
  go_wp2_with fail
  go_quiet (first | (go_at_call 33; exact Calls.quiet_of_same (zcd _ _ h0 h1)) | (go_at_call 32; exact Calls.quiet_of_same (zcw _ _ h0 h1)))
  go_wp2
  go_ret
  exact ⟨rfl, by first | exact A | exact zac A _⟩
theorem u8_lt (x y : Int) (hx : 0 ≤ x ∧ x ≤ 255) (hy : 0 ≤ y ∧ y ≤ 255) : UInt8.ofNat x.toNat < UInt8.ofNat y.toNat ↔ x < y := by
 rw [UInt8.lt_iff_toNat_lt, UInt8.toNat_ofNat', UInt8.toNat_ofNat']
 omega
theorem cmp_ord : ∀ (a b : List Int), Wf a → Wf b → Lib.compareBytes (Lib.bytesOf a) (Lib.bytesOf b) = ordL a b
 | [], [], _, _ => rfl
 | [], _ :: _, _, _ => rfl
 | _ :: _, [], _, _ => rfl
 | x :: a, y :: b, ha, hb => by
  have hx := ha x zv
  have hy := hb y zv
  have ih := cmp_ord a b (fun z hz => ha z (by simp [hz])) (fun z hz => hb z (by simp [hz]))
  unfold Lib.bytesOf at ih ⊢
  simp only [List.map_cons, Lib.compareBytes, ordL, u8_lt x y hx hy, u8_lt y x hy hx, ih]
theorem less_ord : ∀ (a b : List Int), Wf a → Wf b → Op.bytesLess (Lib.bytesOf a) (Lib.bytesOf b) = decide (kl a b)
 | [], [], _, _ => rfl
 | [], _ :: _, _, _ => rfl
 | _ :: _, [], _, _ => rfl
 | x :: a, y :: b, ha, hb => by
  have hx := ha x zv
  have hy := hb y zv
  have ih := less_ord a b (fun z hz => ha z (by simp [hz])) (fun z hz => hb z (by simp [hz]))
  unfold Lib.bytesOf at ih ⊢
  unfold kl at ih ⊢
  have A : UInt8.ofNat x.toNat = UInt8.ofNat y.toNat ↔ x = y := ⟨byte_inj hx hy, fun e => by rw [e]⟩
  simp only [List.map_cons, Op.bytesLess, ordL, u8_lt x y hx hy, ih]
  by_cases h1 : x < y
  ·simp [h1]
  ·by_cases h2 : y < x
   ·have : ¬ x = y := zq
    simp [h1, h2, A, this]
   ·have : x = y := zq
    simp [this]
theorem str_less {a b : List Int} (ha : Wf a) (hb : Wf b) : Op.bytesLess (strOfNums a).toList (strOfNums b).toList = decide (kl a b) := by
 rw [Lib.strOfNums_toList, Lib.strOfNums_toList, less_ord a b ha hb]
theorem run_bytes {w : World} {ao : Option Addr} {n cap : Nat} {l : List Int} (h : Sl w ao n cap l) : (Extern.Bytes.bytesOf (.slice ao n cap)).run Tryz.prog w = .ok ⟨(Lib.bytesOf l).toArray⟩ w := by
 obtain ⟨A, E, D, F, B, C⟩ := h
 have he : (⟨ByteArray.empty.data ++ (Lib.bytesOf l).toArray⟩ : ByteArray) = ⟨(Lib.bytesOf l).toArray⟩ := by
  apply ByteArray.ext
  show (#[] : Array UInt8) ++ (Lib.bytesOf l).toArray = (Lib.bytesOf l).toArray
  simp
 cases ao with
 | none =>
  have : n = 0 := by have := B rfl; omega
  obtain rfl : l = [] := List.eq_nil_of_length_eq_zero zq
  rfl
 | some a =>
  have hl := Lib.run_loadBytesX (P := Tryz.prog) w l a .empty (fun j x hj => by
   have G : j < l.length := (zH.1 hj).1
   rcases C with h0 | ⟨b, off, e, hb, hc⟩
   ·omega
   ·injection e with e
    subst e
    rw [Addr.add_lit, hc j zq, List.getD_eq_getElem?_getD, hj]
    rfl)
  rw [A, he] at hl
  simpa [Extern.Bytes.bytesOf] using hl
theorem run_cmp {w : World} {ao bo : Option Addr} {n m c d : Nat} {la lb : List Int} (ha : Sl w ao n c la) (hb : Sl w bo m d lb) :
  (Extern.BytealgCompare.compare #[.slice ao n c, .slice bo m d]).run Tryz.prog w = .ok (.int .i64 (ordL la lb)) w := by
 change Sem.run Tryz.prog (do pure (goInt (Extern.BytealgCompare.cmp (← Extern.Bytes.bytesOf (.slice ao n c)) (← Extern.Bytes.bytesOf (.slice bo m d))))) w = _
 simp only [Sem.run_bind, run_bytes ha, run_bytes hb, Sem.run_pure, Result.andThen]
 rw [Lib.cmp_eq, show (⟨(Lib.bytesOf la).toArray⟩ : ByteArray).data.toList = Lib.bytesOf la from rfl, show (⟨(Lib.bytesOf lb).toArray⟩ : ByteArray).data.toList = Lib.bytesOf lb from rfl, cmp_ord la lb ha.wf hb.wf]
 rfl
theorem compare_any (ao bo : Option Addr) (n m c d : Nat) (la lb : List Int) (w : World) (ha : Sl w ao n c la) (hb : Sl w bo m d lb) :
  Calls Tryz.prog 111 #[.slice ao n c, .slice bo m d] w fun e w' => e = .returned (.int .i64 (ordL la lb)) ∧ w' = w := by
 have hr := run_cmp ha hb
 clear ha hb
 go_enter Tryz.func111, Tryz.ntmps111
 go_wp2
 rw [run_callFunc_extern Tryz.func146 (by kernel_rfl) (by kernel_rfl) (by kernel_rfl) (e := Extern.BytealgCompare.compare) (by kernel_rfl), hr]
 simp only [Result.andThen]
 rw [Oper.upon_value]
 go_wp2
 go_ret
 exact ⟨rfl, rfl⟩
theorem rise_any (ao bo : Option Addr) (n m c d : Nat) (la lb : List Int) (w : World) (ha : Sl w ao n c la) (hb : Sl w bo m d lb) :
  Calls Tryz.prog 72 #[.slice ao n c, .slice bo m d] w fun e w' => e = .returned (.bool (decide (kl la lb))) ∧ w' = w := by
 have hr := compare_any ao bo n m c d la lb w ha hb
 have hq : decide (kl la lb) = decide (ordL la lb < 0) := by
  have := ordL_three la lb
  refine decide_eq_decide.2 ?_
  unfold kl
  omega
 rw [hq]
 clear ha hb hq
 generalize ordL la lb = x at *
 go_enter Tryz.func72, Tryz.ntmps72
 go_wp2_with (go_at_call 111; refine zad hr ?_)
 go_ret
 exact ⟨rfl, rfl⟩
structure Cf (F : Nat → Prop) (w w' : World) : Prop where
 os : w'.os = w.os
 tape : w'.tape = w.tape
 output : w'.output = w.output
 size : w.heap.size ≤ w'.heap.size
 block : ∀ k, k < w.heap.size → ¬ F k → w'.heap[k]? = w.heap[k]?
theorem Cf.refl (F : Nat → Prop) (w : World) : Cf F w w := ⟨rfl, rfl, rfl, Lr, fun _ _ _ => rfl⟩
theorem Cf.trans {F G : Nat → Prop} {a b c : World} (h : Cf F a b) (k : Cf G b c) (hG : ∀ i, i < a.heap.size → G i → F i) : Cf F a c :=
 ⟨k.os.trans h.os, k.tape.trans h.tape, k.output.trans h.output, zN h.size k.size, fun i hi hf => (k.block i (zO hi h.size) fun g => hf (hG i hi g)).trans (h.block i hi hf)⟩
theorem Cf.go {F : Nat → Prop} {a b c : World} (h : Cf F a b) (k : Cf F b c) : Cf F a c := h.trans k fun _ _ g => g
theorem Cf.of_below {F : Nat → Prop} {a b : World} (h : Below a.heap.size a b) : Cf F a b := ⟨h.os, h.tape, h.output, h.size, fun k hk _ => h.block k hk⟩
theorem Cf.below {F : Nat → Prop} {a b : World} {B : Nat} (h : Cf F a b) (hB : B ≤ a.heap.size) (hF : ∀ k, k < B → ¬ F k) : Below B a b := ⟨h.os, h.tape, h.output, h.size, fun k hk => h.block k zq (hF k hk)⟩
theorem Cf.alloc (F : Nat → Prop) (w : World) (o : Obj) : Cf F w (w.alloc o) := ⟨rfl, rfl, rfl, zv, fun k hk _ => Below.heap_alloc _ _ _ hk⟩
theorem Cf.setCell {F : Nat → Prop} (w : World) {p : Addr} (hp : F p.block) (u : Value) : Cf F w (w.setCell p u) :=
 ⟨rfl, rfl, rfl, by simp [World.setCell], fun k _ hk => Below.heap_setCell _ _ _ _ fun e => hk (e ▸ hp)⟩
theorem Cf.set (w : World) (r k : Nat) (u : Value) : Cf (· = r) w (w.setCell ⟨r, k, none⟩ u) := Cf.setCell (F := (· = r)) w (p := ⟨r, k, none⟩) rfl u
theorem Cf.drew (F : Nat → Prop) (w : World) (n : Nat) : Cf F w (w.drewN n) := ⟨rfl, rfl, rfl, Lr, fun _ _ _ => rfl⟩
def Rd (w : World) (r : Nat) (ao : Option Addr) (n cap at_ : Nat) (en : Bool) : Prop := w.heap[r]? = some (.cells #[.slice ao n cap, .int .i64 (at_ : Int), .bool en] 151 (0, 0))
theorem Rd.c0 {w : World} {r : Nat} {ao : Option Addr} {n cap at_ : Nat} {en : Bool} (h : Rd w r ao n cap at_ en) : w.cell? ⟨r, 0, none⟩ = some (.slice ao n cap) := by rw [cell_of_row _ _ 0 _ _ _ h]; rfl
theorem Rd.c1 {w : World} {r : Nat} {ao : Option Addr} {n cap at_ : Nat} {en : Bool} (h : Rd w r ao n cap at_ en) : w.cell? ⟨r, 1, none⟩ = some (.int .i64 (at_ : Int)) := by rw [cell_of_row _ _ 1 _ _ _ h]; rfl
theorem Rd.c2 {w : World} {r : Nat} {ao : Option Addr} {n cap at_ : Nat} {en : Bool} (h : Rd w r ao n cap at_ en) : w.cell? ⟨r, 2, none⟩ = some (.bool en) := by rw [cell_of_row _ _ 2 _ _ _ h]; rfl
theorem Rd.free {w : World} {r : Nat} {ao : Option Addr} {n cap at_ : Nat} {en : Bool} (h : Rd w r ao n cap at_ en) (k : Nat) : w.frozen? ⟨r, k, none⟩ = false := by
 unfold Rd at h
 simp [World.frozen?, h]
theorem Rd.drewN {w : World} {r : Nat} {ao : Option Addr} {n cap at_ : Nat} {en : Bool} (h : Rd w r ao n cap at_ en) (q : Nat) : Rd (w.drewN q) r ao n cap at_ en := h
theorem Rd.lt {w : World} {r : Nat} {ao : Option Addr} {n cap at_ : Nat} {en : Bool} (h : Rd w r ao n cap at_ en) : r < w.heap.size := zaf h
theorem Rd.set1 {w : World} {r : Nat} {ao : Option Addr} {n cap at_ : Nat} {en : Bool} (h : Rd w r ao n cap at_ en) (x : Nat) : Rd (w.setCell ⟨r, 1, none⟩ (.int .i64 (x : Int))) r ao n cap x en := by
 unfold Rd at *
 have := zau (w := w) (a := r) (cs := [.slice ao n cap, .int .i64 (at_ : Int), .bool en]) (i := 1) (u := .int .i64 (x : Int)) h
 simpa using this
theorem Rd.set2 {w : World} {r : Nat} {ao : Option Addr} {n cap at_ : Nat} {en : Bool} (h : Rd w r ao n cap at_ en) (x : Bool) : Rd (w.setCell ⟨r, 2, none⟩ (.bool x)) r ao n cap at_ x := by
 unfold Rd at *
 have := zau (w := w) (a := r) (cs := [.slice ao n cap, .int .i64 (at_ : Int), .bool en]) (i := 2) (u := .bool x) h
 simpa using this
theorem Sl.apart {w : World} {ao : Option Addr} {n cap : Nat} {l : List Int} (h : Sl w ao n cap l) {r : Nat} {a : Option Addr} {b c d : Nat} {en : Bool} (hr : Rd w r a b c d en) : n = 0 ∨ ∀ p, ao = some p → p.block ≠ r := by
 rcases h.hat with h0 | ⟨g, off, rfl, hg, hc⟩
 ·exact .inl h0
 ·rcases Nat.eq_zero_or_pos n with h0 | h0
  ·exact .inl h0
  ·right
   rintro p hp rfl
   injection hp with hp
   subst hp
   have h1 := hc 0 h0
   rw [cell_of_row _ _ _ _ _ _ hr] at h1
   rcases Nat.lt_or_ge (off + 0) 3 with h3 | h3
   ·have h4 : off + 0 = 0 ∨ off + 0 = 1 ∨ off + 0 = 2 := zq
    rcases h4 with h4 | h4 | h4 <;> (rw [h4] at h1; simp at h1)
   ·rw [Array.getElem?_eq_none (by simpa using h3)] at h1
    cases h1
theorem Sl.cf {w w' : World} {ao : Option Addr} {n cap : Nat} {l : List Int} {F : Nat → Prop} (h : Sl w ao n cap l) (hc : Cf F w w') (hf : n = 0 ∨ ∀ p, ao = some p → ¬ F p.block) : Sl w' ao n cap l := by
 refine ⟨h.hlen, h.hcap, h.hroom, h.wf, h.hnil, ?_⟩
 rcases h.hat with h0 | ⟨b, off, e, A, B⟩
 ·exact .inl h0
 ·rcases hf with h0 | hf
  ·exact .inl h0
  ·refine .inr ⟨b, off, e, zO A hc.size, fun i hi => ?_⟩
   have := hc.block b A (hf _ e)
   rw [← B i hi]
   simp only [World.cell?, this]
def NumTo (x : Nat) (l : List Int) (w : World) (r : Nat) (ao : Option Addr) (n cap at_ : Nat) (en : Bool) (e : Ending) (w' : World) : Prop :=
 ∃ (v : Int) (p : Nat) (en' : Bool), e = .returned (.int .i64 v) ∧ Hid (Rd w' r ao n cap p en') ∧ Hid (Cf (· = r) w w') ∧ Hid ((0 ≤ v ∧ v < 256 ^ x) ∧ p ≤ n ∧ ((pNum x (l.drop at_) = some (v, l.drop p) ∧ en' = en) ∨ (pNum x (l.drop at_) = none ∧ en' = true ∧ v = 0 ∧ p = at_)))
theorem number_any (x : Nat) (l : List Int) (w : World) (r : Nat) (ao : Option Addr) (n cap at_ : Nat) (en : Bool) (hx : x = 1 ∨ x = 2 ∨ x = 4) (hr : Rd w r ao n cap at_ en) (hs : Sl w ao n cap l) (ha : at_ ≤ n) :
  Calls Tryz.prog 158 #[.pointer (some ⟨r, 0, none⟩), .int .i64 (x : Int)] w fun e w' => NumTo x l w r ao n cap at_ en e w' := by
 have c0 := hr.c0
 have c1 := hr.c1
 have c2 := hr.c2
 have f1 := hr.free 1
 have f2 := hr.free 2
 have hn := hs.hroom
 have HR := zaa hr
 have B := hs.hlen
 have A : 1 ≤ (x : Int) ∧ (x : Int) ≤ 8 := zq
 by_cases h : x ≤ n - at_
 ·have HF : Hid (∀ q, Calls Tryz.prog 172 #[.slice ao n cap, .int .i64 (at_ : Int), .int .i64 (x : Int)] (w.drewN q) fun e w' => e = .returned (.tuple #[.int .u64 (rdB ((l.drop at_).take x)), .int .i64 0]) ∧ w' = w.drewN q) :=
   zaa fun q => by simpa using readFixed_ok ao n cap l (at_ : Int) (x : Int) (w.drewN q) (hs.drewN q) A.1 A.2 zq zq
  have hp : pNum x (l.drop at_) = some (rdB ((l.drop at_).take x), l.drop (at_ + x)) := by
   unfold pNum
   rw [if_neg (by rw [zK]; omega), List.drop_drop]
  have hb := zdc ((l.drop at_).take x) ((hs.wf.drop at_).take x)
  rw [show ((l.drop at_).take x).length = x from by rw [zJ, zK]; omega] at hb
  have HB := zaa hb
  have C : rdB ((l.drop at_).take x) < 4294967296 := by rcases hx with rfl | rfl | rfl <;> omega
  generalize rdB ((l.drop at_).take x) = v at *
  have D := hb.1
  have HP := zaa hp
  clear hp hb hs
  have hw : wrap64 v = v := by simp [wrap64]; omega
  have HS : ∀ q, Hid (Rd ((w.drewN q).setCell ⟨r, 1, none⟩ (.int .i64 ((at_ + x : Nat) : Int))) r ao n cap (at_ + x) en) := fun q => zaa (Rd.set1 (HR.out.drewN q) (at_ + x))
  go_enter Tryz.func158, Tryz.ntmps158
  go_wp2_with fail
  go_quiet (first | (go_at_call 172; exact Calls.quiet_of_same (HF.out _)))
  go_wp2
  go_ret
  exact ⟨v, at_ + x, en, rfl, by simpa using HS _, zaa ((Cf.drew _ _ _).go (Cf.set _ _ _ _)), zaa ⟨HB.out, zq, .inl ⟨HP.out, rfl⟩⟩⟩
 ·have HF : Hid (∀ q, Calls Tryz.prog 172 #[.slice ao n cap, .int .i64 (at_ : Int), .int .i64 (x : Int)] (w.drewN q) fun e w' => e = .returned (.tuple #[.int .u64 0, .int .i64 10]) ∧ w' = w.drewN q) :=
   zaa fun q => by simpa using zdu ao n cap (at_ : Int) (x : Int) (w.drewN q) A.1 A.2 zq zq zq
  have hp : pNum x (l.drop at_) = none := by
   unfold pNum
   rw [if_pos (by rw [zK]; omega)]
  have HP := zaa hp
  clear hp hs
  go_enter Tryz.func158, Tryz.ntmps158
  go_wp2_with fail
  go_quiet (first | (go_at_call 172; exact Calls.quiet_of_same (HF.out _)))
  go_wp2
  go_ret
  exact ⟨0, at_, true, rfl, zaa (Rd.set2 (HR.out.drewN _) true), zaa ((Cf.drew _ _ _).go (Cf.set _ _ _ _)), zaa ⟨⟨zq, Int.pow_pos zq⟩, ha, .inr ⟨HP.out, rfl, rfl, rfl⟩⟩⟩
theorem Sl.piece {w : World} {g off n cap : Nat} {l : List Int} (h : Sl w (some ⟨g, off, none⟩) n cap l) (a k c : Nat) (hk : a + k ≤ n) (hc : k ≤ c) : Sl w (some ⟨g, off + a, none⟩) k c ((l.drop a).take k) := by
 have hl := h.hlen
 refine ⟨by rw [zJ, zK]; omega, hc, zN zq h.hroom, (h.wf.drop a).take k, (by intro e; cases e), ?_⟩
 rcases h.hat with h0 | ⟨b, o, e, A, B⟩
 ·exact .inl zq
 ·injection e with e
  injection e with e1 e2
  subst e1 e2
  refine .inr ⟨g, off + a, rfl, A, fun i hi => ?_⟩
  rw [Nat.add_assoc, B (a + i) zq]
  simp [List.getD, hi]
theorem Sl.nil_any (w : World) (ao : Option Addr) (c : Nat) (h : ao = none → c = 0) : Sl w ao 0 c [] := ⟨rfl, Nat.zero_le _, zq, Wf.nil, h, .inl rfl⟩
def TextTo (l : List Int) (w : World) (r : Nat) (ao : Option Addr) (n cap at_ : Nat) (en : Bool) (e : Ending) (w' : World) : Prop :=
 ∃ (ko : Option Addr) (kn kc p : Nat) (en' : Bool) (t : List Int), e = .returned (.slice ko kn kc) ∧ Hid (Rd w' r ao n cap p en') ∧ Hid (Cf (· = r) w w') ∧ Hid (Sl w' ko kn kc t ∧ (∀ q, ko = some q → ∀ o, ao = some o → q.block = o.block) ∧ p ≤ n ∧ ((zao (l.drop at_) = some (t, l.drop p) ∧ en' = en) ∨ (zao (l.drop at_) = none ∧ en' = true)))
theorem text_any (l : List Int) (w : World) (r g off n cap at_ : Nat) (en : Bool) (hr : Rd w r (some ⟨g, off, none⟩) n cap at_ en) (hs : Sl w (some ⟨g, off, none⟩) n cap l) (ha : at_ ≤ n) :
  Calls Tryz.prog 159 #[.pointer (some ⟨r, 0, none⟩)] w fun e w' => TextTo l w r (some ⟨g, off, none⟩) n cap at_ en e w' := by
 have HN := zaa (number_any 2 l w r (some ⟨g, off, none⟩) n cap at_ en (.inr (.inl rfl)) hr hs ha)
 have HS := zaa hs
 have J := zaa (hs.apart hr)
 have hn := hs.hroom
 have Q := hs.hcap
 clear hr hs
 go_enter Tryz.func159, Tryz.ntmps159
 go_wp2_with (go_at_call 158; refine HN.out.mono ?_; rintro e w1 ⟨v, p, en', rfl, HR, HC, HV⟩; refine Hid.out ?_)
 apply zaa
 clear HN
 obtain ⟨⟨K, M⟩, hp, E⟩ := HV.out
 clear HV
 have A := zaa E
 clear E
 obtain ⟨m, rfl⟩ := Int.eq_ofNat_of_zero_le K
 have hm : m < 65536 := zq
 clear K M
 have N : Hid (Sl w1 (some ⟨g, off, none⟩) n cap l) := zaa (HS.out.cf HC.out J.out)
 have c0 := HR.out.c0
 have c1 := HR.out.c1
 have c2 := HR.out.c2
 have f1 := HR.out.free 1
 have f2 := HR.out.free 2
 have H := zaa HS.out.hlen
 by_cases h : (n : Int) - (p : Int) < (m : Int)
 ·have d1 : decide ((n : Int) - (p : Int) < (m : Int)) = true := decide_eq_true h
  have HQ : Hid (zao (l.drop at_) = none) := by
   rcases A.out with ⟨h1, h2⟩ | ⟨h1, h2, h3, h4⟩
   ·refine zaa ?_
    unfold zao
    rw [h1]
    simp only
    rw [if_pos (by rw [zK, H.out]; omega)]
   ·omega
  go_wp2_with fail
  go_quiet (fail)
  go_wp2
  go_ret
  exact ⟨none, 0, 0, p, true, [], rfl, zaa (Rd.set2 (HR.out.drewN _) true), zaa ((HC.out.go (Cf.drew _ _ _)).go (Cf.set _ _ _ _)), zaa ⟨Sl.nil_any _ _ _ (fun _ => rfl), (by intro q hq; cases hq), hp, .inr ⟨HQ.out, rfl⟩⟩⟩
 ·have d1 : decide ((n : Int) - (p : Int) < (m : Int)) = false := decide_eq_false h
  have C : Hid (∃ tx, tx = (l.drop p).take m ∧ ((zao (l.drop at_) = some (tx, l.drop (p + m)) ∧ en' = en) ∨ (zao (l.drop at_) = none ∧ en' = true))) := by
   refine zaa ⟨(l.drop p).take m, rfl, ?_⟩
   rcases A.out with ⟨h1, h2⟩ | ⟨h1, h2, h3, h4⟩
   ·left
    refine ⟨?_, h2⟩
    unfold zao
    rw [h1]
    simp only
    rw [if_neg (by rw [zK, H.out]; omega), Int.toNat_natCast, List.drop_drop]
   ·right
    refine ⟨?_, h2⟩
    unfold zao
    rw [h1]
  have I : Hid (m = 0 ∨ ∀ q : Addr, some (⟨g, off + p, none⟩ : Addr) = some q → ¬ q.block = r) := by
   refine zaa ?_
   rcases J.out with h0 | h0
   ·exact .inl zq
   ·exact .inr fun q hq => by injection hq with hq; subst hq; exact h0 ⟨g, off, none⟩ rfl
  by_cases O : m = 0
  ·subst O
   have p2 : p ≤ cap := zq
   have p3 : (p : Int) ≤ (cap : Int) := zq
   have B : ∀ q, Hid (Rd ((w1.drewN q).setCell ⟨r, 1, none⟩ (.int .i64 (p : Int))) r (some ⟨g, off, none⟩) n cap p en') := fun q => zaa (Rd.set1 (HR.out.drewN q) p)
   have x0 := fun q => (B q).out.c0
   have x1 := fun q => (B q).out.c1
   have F : Hid (∀ q q' : Nat, Cf (· = r) w (((w1.drewN q).setCell ⟨r, 1, none⟩ (.int .i64 (p : Int))).drewN q')) := zaa fun q q' => ((HC.out.go (Cf.drew _ _ _)).go (Cf.set _ _ _ _)).go (Cf.drew _ _ _)
   clear h I A
   go_wp2_with fail
   go_quiet (fail)
   go_wp2_with fail
   go_quiet (fail)
   go_wp2
   go_ret
   obtain ⟨tx, D, G⟩ := C.out
   rw [List.take_zero] at D
   subst D
   exact ⟨_, _, _, p, en', [], rfl, zaa ((B _).out.drewN _), zaa (F.out _ _), zaa ⟨Sl.nil_any _ _ _ (by intro h; cases h), (fun q hq o ho => by injection hq with hq; injection ho with ho; subst hq ho; rfl), hp, G⟩⟩
  ·obtain ⟨t, ht⟩ : ∃ t, p + m = t := ⟨_, rfl⟩
   have R : (p : Int) + (m : Int) = (t : Int) := zq
   have t1 : p ≤ t := zq
   have t2 : t ≤ n := zq
   have t3 : t ≤ cap := zq
   have t4 : (p : Int) ≤ (t : Int) := zq
   have t5 : (t : Int) ≤ (cap : Int) := zq
   have t6 : t - p = m := zq
   have t7 : ¬ t = p := zq
   have B : ∀ q, Hid (Rd ((w1.drewN q).setCell ⟨r, 1, none⟩ (.int .i64 (t : Int))) r (some ⟨g, off, none⟩) n cap t en') := fun q => zaa (Rd.set1 (HR.out.drewN q) t)
   have x0 := fun q => (B q).out.c0
   have x1 := fun q => (B q).out.c1
   have F : Hid (∀ q q' : Nat, Cf (· = r) w (((w1.drewN q).setCell ⟨r, 1, none⟩ (.int .i64 (t : Int))).drewN q')) := zaa fun q q' => ((HC.out.go (Cf.drew _ _ _)).go (Cf.set _ _ _ _)).go (Cf.drew _ _ _)
   have L : Hid (∀ q q' : Nat, Cf (· = r) w1 (((w1.drewN q).setCell ⟨r, 1, none⟩ (.int .i64 (t : Int))).drewN q')) := zaa fun q q' => ((Cf.drew _ _ _).go (Cf.set _ _ _ _)).go (Cf.drew _ _ _)
   have P := zaa (N.out.piece p m m zq Lr)
   rw [ht] at C
   clear h A ht
   go_wp2_with fail
   go_quiet (fail)
   go_wp2_with fail
   go_quiet (fail)
   go_wp2
   go_ret
   obtain ⟨tx, D, G⟩ := C.out
   subst D
   exact ⟨_, _, _, t, en', _, rfl, zaa ((B _).out.drewN _), zaa (F.out _ _), zaa ⟨P.out.cf (L.out _ _) I.out, (fun q hq o ho => by injection hq with hq; injection ho with ho; subst hq ho; rfl), t2, G⟩⟩
def C5 (w : World) (g : Nat) (x0 x1 x2 x3 x4 : Value) : Prop := w.heap[g]? = some (.cells #[x0, x1, x2, x3, x4] 50 (0, 0))
theorem C5.cells {w : World} {g : Nat} {x0 x1 x2 x3 x4 : Value} (h : C5 w g x0 x1 x2 x3 x4) :
  w.cell? ⟨g, 0, none⟩ = some x0 ∧ w.cell? ⟨g, 1, none⟩ = some x1 ∧ w.cell? ⟨g, 2, none⟩ = some x2 ∧ w.cell? ⟨g, 3, none⟩ = some x3 ∧ w.cell? ⟨g, 4, none⟩ = some x4 := by
 unfold C5 at h
 refine ⟨?_, ?_, ?_, ?_, ?_⟩
 ·rw [cell_of_row _ _ 0 _ _ _ h]; rfl
 ·rw [cell_of_row _ _ 1 _ _ _ h]; rfl
 ·rw [cell_of_row _ _ 2 _ _ _ h]; rfl
 ·rw [cell_of_row _ _ 3 _ _ _ h]; rfl
 ·rw [cell_of_row _ _ 4 _ _ _ h]; rfl
theorem C5.free {w : World} {g : Nat} {x0 x1 x2 x3 x4 : Value} (h : C5 w g x0 x1 x2 x3 x4) : w.frozen? ⟨g, 0, none⟩ = false ∧ w.frozen? ⟨g, 1, none⟩ = false ∧ w.frozen? ⟨g, 2, none⟩ = false ∧ w.frozen? ⟨g, 3, none⟩ = false ∧ w.frozen? ⟨g, 4, none⟩ = false := by
 unfold C5 at h
 simp [World.frozen?, h]
theorem C5.set {w : World} {g : Nat} {x0 x1 x2 x3 x4 : Value} (h : C5 w g x0 x1 x2 x3 x4) (y : Value) :
  C5 (w.setCell ⟨g, 0, none⟩ y) g y x1 x2 x3 x4 ∧ C5 (w.setCell ⟨g, 1, none⟩ y) g x0 y x2 x3 x4 ∧ C5 (w.setCell ⟨g, 2, none⟩ y) g x0 x1 y x3 x4 ∧ C5 (w.setCell ⟨g, 3, none⟩ y) g x0 x1 x2 y x4 ∧ C5 (w.setCell ⟨g, 4, none⟩ y) g x0 x1 x2 x3 y := by
 unfold C5 at *
 refine ⟨?_, ?_, ?_, ?_, ?_⟩
 ·simpa using zau (w := w) (a := g) (i := 0) (cs := [x0, x1, x2, x3, x4]) (u := y) h
 ·simpa using zau (w := w) (a := g) (i := 1) (cs := [x0, x1, x2, x3, x4]) (u := y) h
 ·simpa using zau (w := w) (a := g) (i := 2) (cs := [x0, x1, x2, x3, x4]) (u := y) h
 ·simpa using zau (w := w) (a := g) (i := 3) (cs := [x0, x1, x2, x3, x4]) (u := y) h
 ·simpa using zau (w := w) (a := g) (i := 4) (cs := [x0, x1, x2, x3, x4]) (u := y) h
theorem C5.cf {w w' : World} {g : Nat} {x0 x1 x2 x3 x4 : Value} {F : Nat → Prop} (h : C5 w g x0 x1 x2 x3 x4) (hc : Cf F w w') (hg : ¬ F g) : C5 w' g x0 x1 x2 x3 x4 := (hc.block g (zaf h) hg).trans h
theorem Rd.cf {w w' : World} {r : Nat} {ao : Option Addr} {n cap at_ : Nat} {en : Bool} {F : Nat → Prop} (h : Rd w r ao n cap at_ en) (hc : Cf F w w') (hg : ¬ F r) : Rd w' r ao n cap at_ en := (hc.block r h.lt hg).trans h
structure Cs (w u : World) (k r g off n cap p : Nat) (en : Bool) (l : List Int) (x0 x1 x2 x3 x4 : Value) : Prop where
 rd : Rd u r (some ⟨g, off, none⟩) n cap p en
 sl : Sl u (some ⟨g, off, none⟩) n cap l
 c2 : C5 u k (.slice none 0 0) (.int .i64 0) (.slice none 0 0) (.int .i64 0) (.int .i64 0)
 c3 : C5 u (k + 1) x0 x1 x2 x3 x4
 cf : Cf (· = r) w u
 hk : k = w.heap.size
 hp : p ≤ n
theorem Cs.r_lt {w u : World} {k r g off n cap p : Nat} {en : Bool} {l : List Int} {x0 x1 x2 x3 x4 : Value} (h : Cs w u k r g off n cap p en l x0 x1 x2 x3 x4) (hr : r < w.heap.size) : ¬ k = r ∧ ¬ k + 1 = r := by
 have := h.hk
 omega
theorem Cs.number {w u : World} {k r g off n cap p : Nat} {en : Bool} {l : List Int} {x0 x1 x2 x3 x4 : Value} (h : Cs w u k r g off n cap p en l x0 x1 x2 x3 x4) (hr : r < w.heap.size) (x : Nat) (hx : x = 1 ∨ x = 2 ∨ x = 4) :
  Calls Tryz.prog 158 #[.pointer (some ⟨r, 0, none⟩), .int .i64 (x : Int)] u fun e w' => ∃ (v : Int) (p' : Nat) (en' : Bool), e = .returned (.int .i64 v) ∧ Hid (Cs w w' k r g off n cap p' en' l x0 x1 x2 x3 x4) ∧ Hid ((pNum x (l.drop p) = some (v, l.drop p') ∧ en' = en) ∨ (pNum x (l.drop p) = none ∧ en' = true)) ∧ Hid (Cf (· = r) u w') := by
 refine (number_any x l u r _ n cap p en hx h.rd h.sl h.hp).mono ?_
 rintro e w' ⟨v, p', en', rfl, HR, HC, HV⟩
 obtain ⟨h1, h2⟩ := h.r_lt hr
 obtain ⟨_, hp, hv⟩ := HV.out
 refine ⟨v, p', en', rfl, zaa ⟨HR.out, h.sl.cf HC.out (h.sl.apart h.rd), h.c2.cf HC.out h1, h.c3.cf HC.out h2, h.cf.go HC.out, h.hk, hp⟩, zaa ?_, HC⟩
 rcases hv with ⟨a, b⟩ | ⟨a, b, c, d⟩
 ·exact .inl ⟨a, b⟩
 ·exact .inr ⟨a, b⟩
theorem Cs.text {w u : World} {k r g off n cap p : Nat} {en : Bool} {l : List Int} {x0 x1 x2 x3 x4 : Value} (h : Cs w u k r g off n cap p en l x0 x1 x2 x3 x4) (hr : r < w.heap.size) :
  Calls Tryz.prog 159 #[.pointer (some ⟨r, 0, none⟩)] u fun e w' => ∃ (ko : Option Addr) (kn kc p' : Nat) (en' : Bool) (t : List Int), e = .returned (.slice ko kn kc) ∧ Hid (Cs w w' k r g off n cap p' en' l x0 x1 x2 x3 x4) ∧ Hid (Sl w' ko kn kc t ∧ ∀ q, ko = some q → q.block = g) ∧ Hid ((zao (l.drop p) = some (t, l.drop p') ∧ en' = en) ∨ (zao (l.drop p) = none ∧ en' = true)) ∧ Hid (Cf (· = r) u w') := by
 refine (text_any l u r g off n cap p en h.rd h.sl h.hp).mono ?_
 rintro e w' ⟨ko, kn, kc, p', en', t, rfl, HR, HC, HV⟩
 obtain ⟨h1, h2⟩ := h.r_lt hr
 obtain ⟨hs, A, hp, hv⟩ := HV.out
 exact ⟨ko, kn, kc, p', en', t, rfl, zaa ⟨HR.out, h.sl.cf HC.out (h.sl.apart h.rd), h.c2.cf HC.out h1, h.c3.cf HC.out h2, h.cf.go HC.out, h.hk, hp⟩, zaa ⟨hs, fun q hq => A q hq _ rfl⟩, zaa hv, HC⟩
theorem Sl.apart5 {w : World} {ao : Option Addr} {n cap : Nat} {l : List Int} (h : Sl w ao n cap l) {g : Nat} {a b : Option Addr} {c d e f : Nat} {x y z : Int} (hr : C5 w g (.slice a c d) (.int .i64 x) (.slice b e f) (.int .i64 y) (.int .i64 z)) : n = 0 ∨ ∀ p, ao = some p → ¬ p.block = g := by
 rcases h.hat with h0 | ⟨q, off, rfl, hg, hc⟩
 ·exact .inl h0
 ·rcases Nat.eq_zero_or_pos n with h0 | h0
  ·exact .inl h0
  ·right
   rintro p hp rfl
   injection hp with hp
   subst hp
   have h1 := hc 0 h0
   unfold C5 at hr
   rw [cell_of_row _ _ _ _ _ _ hr] at h1
   rcases Nat.lt_or_ge (off + 0) 5 with h3 | h3
   ·have h4 : off + 0 = 0 ∨ off + 0 = 1 ∨ off + 0 = 2 ∨ off + 0 = 3 ∨ off + 0 = 4 := zq
    rcases h4 with h4 | h4 | h4 | h4 | h4 <;> (rw [h4] at h1; simp at h1)
   ·rw [Array.getElem?_eq_none (by simpa using h3)] at h1
    cases h1
theorem Cs.store {w u : World} {k r g off n cap p : Nat} {en : Bool} {l : List Int} {a b : Option Addr} {c d e f : Nat} {x y z : Int} (h : Cs w u k r g off n cap p en l (.slice a c d) (.int .i64 x) (.slice b e f) (.int .i64 y) (.int .i64 z)) (hr : r < w.heap.size) (i : Nat) (v : Value) {y0 y1 y2 y3 y4 : Value} (hy : C5 (u.setCell ⟨k + 1, i, none⟩ v) (k + 1) y0 y1 y2 y3 y4) :
  Cs w (u.setCell ⟨k + 1, i, none⟩ v) k r g off n cap p en l y0 y1 y2 y3 y4 := by
 obtain ⟨h1, h2⟩ := h.r_lt hr
 have hc := Cf.set u (k + 1) i v
 refine ⟨h.rd.cf hc zq, h.sl.cf hc (h.sl.apart5 h.c3), h.c2.cf hc zq, hy, ?_, h.hk, h.hp⟩
 refine h.cf.trans hc ?_
 intro j hj e
 have := h.hk
 omega
end Go.Proofs.YtbkhjeacmmbabaaGreatDoor
