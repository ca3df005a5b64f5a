import Derived.Test.YtbkhjeacmmbabaaGreatDoorJ01
import Derived.Deep.QuietTactic
import Derived.BigQuiet
import Derived.Handy
import Derived.Laws.BitsAllLaws
import Derived.Deep.WholeRow
import Derived.Lib.SlBuf
import Derived.Lib.BufferWrite
import Derived.Laws.CopyOwn
import Derived.Deep.RegionLaw
import Derived.Lib.BytesEntry
import Derived.Laws.Externs
namespace Go.Proofs.YtbkhjeacmmbabaaGreatDoor
set_option maxRecDepth 100000
set_option maxHeartbeats 1000000
open Go.RowKit
theorem fixed_yes (n x : Int) (w : World) (h0 : 0 ≤ n) (h1 : 1 ≤ x) (h2 : x ≤ 8) :
  Calls Tryz.prog 117 #[.int .u64 n, .int .i64 x] w fun e w' => ∃ v, e = .returned v ∧ OwnB w' w.heap.size v (fB x.toNat n) ∧ Below w.heap.size w w' := by
 obtain ⟨width, rfl⟩ := Int.eq_ofNat_of_zero_le (show 0 ≤ x by omega)
 rw [Int.toNat_natCast]
 obtain ⟨i0, hi, hz0, hz1, hz2⟩ := info_parts zbj
 go_enter Tryz.func117, Tryz.ntmps117
 go_wp2_with (first
  | (go_at_call 156; refine zac (isWidth_yes _ _ h1 h2) ?_)
  | (at_make; refine wpList_make_full _ rfl _ _ 22 rfl w.heap.size 5 i0 (.int .u8 0) 1 Tryz.underlying22 hi hz0 hz1 .i64 .i64 width width width rfl rfl rfl rfl (by rw [hz2]; omega) (by unfold maxLen; omega) Lr ?_))
 intro w1 hown1 hg1
 have ho1 : OwnB w1 w.heap.size (.slice (some ⟨w.heap.size, 0, none⟩) width width) (List.replicate width 0) := by
  unfold OwnB
  rw [toList_madeCells_one] at hown1
  simpa [By] using hown1
 have hb1 : Below w.heap.size w w1 := Br.grown hg1 Lr (fun k hk => by cases hk)
 clear hown1 hg1
 go_wp2_with fail
 go_loopw [0, 6] (fun y i wr => ∃ j : Nat, j ≤ width ∧ y = .int .u64 (n / 256 ^ j) ∧ i = .int .i64 ((width : Int) - 1 - j) ∧ OwnB wr w.heap.size (.slice (some ⟨w.heap.size, 0, none⟩) width width) (List.replicate (width - j) 0 ++ fB j n) ∧ Below w.heap.size w wr) (fun _ i _ => (intOf i + 1).toNat)
 case atStart => exact ⟨0, by omega, by simp, by simp, by simpa [fB] using ho1, hb1⟩
 case round =>
  obtain ⟨j, hj, rfl, rfl, hown, hb⟩ := hrel
  by_cases hlt : j < width
  ·have hpos : 0 ≤ n / 256 ^ j := Int.ediv_nonneg h0 (Int.le_of_lt (Int.pow_pos (by omega)))
   have hle : n / 256 ^ j ≤ n := Int.ediv_le_self _ h0
   have hl : (List.replicate (width - j) (0 : Int) ++ fB j n).length = width := by simp [zah]; omega
   have hfr : wr.frozen? ⟨w.heap.size, width - 1 - j, none⟩ = false := by
    unfold OwnB at hown; rw [hl] at hown; exact World.ownsRow.frozenAt hown _
   have hce : ∃ u, wr.cell? ⟨w.heap.size, width - 1 - j, none⟩ = some u := by
    unfold OwnB at hown; rw [hl] at hown
    exact ⟨_, (World.ownsRow.cellAt hown (width - 1 - j) (by omega)).trans (zI (by rw [zbk, hl]; omega))⟩
   obtain ⟨u, hce⟩ := hce
   have hp := pow256 n j
   generalize hy : n / 256 ^ j = y at *
   have HY := zaa hy
   clear hy
   have hs := own_set (x := y % 256) hown hl (show width - 1 - j < width by omega)
   go_wp2
   go_roundw
   case rel =>
    refine ⟨j + 1, by omega, rfl, by go_num, ?_, hb.setCell Lr _⟩
    rw [← fB_set width j n hlt, HY.out, show width - j - 1 = width - 1 - j by omega]
    exact hs
   case measure => simp [intOf]; omega
  ·obtain rfl : j = width := by omega
   go_wp2
   go_ret
   exact ⟨_, rfl, by simpa using hown, hb⟩
theorem zej (ao : Option Addr) (n cap : Nat) (p x : Int) (w : World) (h1 : 1 ≤ x) (h2 : x ≤ 8) (h3 : 0 ≤ p) (h4 : p ≤ n) (h5 : (n : Int) - p < x) :
  Calls Tryz.prog 172 #[.slice ao n cap, .int .i64 p, .int .i64 x] w fun e w' => e = .returned (.tuple #[.int .u64 0, .int .i64 10]) ∧ w' = w := by
 go_enter Tryz.func172, Tryz.ntmps172
 go_wp2_with (first | (go_at_call 156; refine zac (isWidth_yes _ _ h1 h2) ?_) | (go_at_call 176; refine zac (zdz _ _ _ _ _ h3 h4) ?_))
 go_ret2
 exact ⟨rfl, rfl⟩
theorem readFixed_ok (ao : Option Addr) (n cap : Nat) (l : List Int) (p' x : Int) (w : World) (hs : Sl w ao n cap l) (h1 : 1 ≤ x) (h2 : x ≤ 8) (h3 : 0 ≤ p') (h5 : x ≤ (n : Int) - p') :
  Calls Tryz.prog 172 #[.slice ao n cap, .int .i64 p', .int .i64 x] w fun e w' => e = .returned (.tuple #[.int .u64 (rdB ((l.drop p'.toNat).take x.toNat)), .int .i64 0]) ∧ w' = w := by
 obtain ⟨width, rfl⟩ := Int.eq_ofNat_of_zero_le (show 0 ≤ x by omega)
 obtain ⟨p, rfl⟩ := Int.eq_ofNat_of_zero_le h3
 rw [Int.toNat_natCast, Int.toNat_natCast]
 obtain ⟨hlen, hcap, hroom, hwf, hnil, hat⟩ := hs
 rcases hat with h | ⟨b, off, rfl, hb, hc⟩
 ·omega
 have hd : ((l.drop p).take width).length = width := by simp; omega
 have hwd : Wf ((l.drop p).take width) := (hwf.drop p).take width
 go_enter Tryz.func172, Tryz.ntmps172
 go_wp2_with (first | (go_at_call 156; refine zac (isWidth_yes _ _ h1 h2) ?_) | (go_at_call 176; refine zac (zdz _ _ _ _ _ h3 (by omega)) ?_))
 go_loop [8, 33] (fun v i => ∃ k : Nat, k ≤ width ∧ i = .int .i64 k ∧ v = .int .u64 (rdB (((l.drop p).take width).take k))) (fun _ i => width - (intOf i).toNat)
 case atStart => exact ⟨0, by omega, rfl, by simp [rdB]⟩
 case round =>
  obtain ⟨k, hk, rfl, rfl⟩ := hrel
  by_cases hlt : k < width
  ·have hck : w.cell? ⟨b, off + p + k, none⟩ = some (.int .u8 (((l.drop p).take width).getD k 0)) := by
    rw [Nat.add_assoc, hc (p + k) (by omega)]
    simp [List.getD, hlt]
   have hby := hwd.getD k
   have hsm := rdB_small _ (hwd.take k) k (by omega) (by simp; omega)
   have hsn : rdB (((l.drop p).take width).take (k + 1)) = rdB (((l.drop p).take width).take k) * 256 + ((l.drop p).take width).getD k 0 := by
    rw [take_snoc _ k (by omega), rdB_snoc]
   generalize ((l.drop p).take width).getD k 0 = c at *
   generalize rdB (((l.drop p).take width).take k) = m at *
   have hor := or_byte m c (by omega) (by omega) hby
   have HS := zaa hsn
   clear hsn
   go_wp2
   go_round
   case rel => exact ⟨k + 1, by omega, by go_num, by rw [HS.out]⟩
   case measure => simp [intOf]; omega
  ·obtain rfl : k = width := by omega
   have ht : ((l.drop p).take k).take k = (l.drop p).take k := List.take_of_length_le (by omega)
   go_wp2
   go_ret2
   exact ⟨rfl, rfl⟩
theorem i64_and_nat (a b : Nat) (ha : a < 9223372036854775808) (hb : b < 9223372036854775808) : bits .and .i64 (a : Int) (b : Int) = ((a &&& b : Nat) : Int) := by
 show IntKind.i64.wrap ((BitVec.ofInt 64 a &&& BitVec.ofInt 64 b).toNat : Nat) = _
 have hle : a &&& b < 9223372036854775808 := Nat.and_lt_two_pow (n := 63) a (by omega)
 have h1 : (BitVec.ofInt 64 (a : Int)).toNat = a := by rw [BitVec.toNat_ofInt]; omega
 have h2 : (BitVec.ofInt 64 (b : Int)).toNat = b := by rw [BitVec.toNat_ofInt]; omega
 rw [BitVec.toNat_and, h1, h2, IntKind.wrap_i64]
 omega
theorem top_bit (n k : Nat) (h1 : 2 ^ k < n) (h2 : n < 2 * 2 ^ k) : n &&& (n - 1) ≠ 0 := by
 intro h
 have hb := congrArg (fun x => Nat.testBit x k) h
 simp only [Nat.testBit_and, Nat.zero_testBit] at hb
 have e1 : n.testBit k = true := by
  rw [Nat.testBit_eq_decide_div_mod_eq]
  have : n / 2 ^ k = 1 := Nat.div_eq_of_lt_le (by omega) (by omega)
  simp [this]
 have e2 : (n - 1).testBit k = true := by
  rw [Nat.testBit_eq_decide_div_mod_eq]
  have : (n - 1) / 2 ^ k = 1 := Nat.div_eq_of_lt_le (by omega) (by omega)
  simp [this]
 rw [e1, e2] at hb
 cases hb
theorem pow_iff (x : Int) (h0 : 512 ≤ x) (h1 : x ≤ 65536) : bits .and .i64 x (x - 1) = 0 ↔ pw x := by
 obtain ⟨n, rfl⟩ := Int.eq_ofNat_of_zero_le (show 0 ≤ x by omega)
 have e : ((n : Int) - 1) = ((n - 1 : Nat) : Int) := by omega
 rw [e, i64_and_nat n (n - 1) (by omega) (by omega)]
 constructor
 ·intro h
  have h' : n &&& (n - 1) = 0 := by omega
  unfold pw
  have k9 : ¬ (512 < n ∧ n < 1024) := fun a => top_bit n 9 (by simpa using a.1) (by simpa using a.2) h'
  have k10 : ¬ (1024 < n ∧ n < 2048) := fun a => top_bit n 10 (by simpa using a.1) (by simpa using a.2) h'
  have k11 : ¬ (2048 < n ∧ n < 4096) := fun a => top_bit n 11 (by simpa using a.1) (by simpa using a.2) h'
  have k12 : ¬ (4096 < n ∧ n < 8192) := fun a => top_bit n 12 (by simpa using a.1) (by simpa using a.2) h'
  have k13 : ¬ (8192 < n ∧ n < 16384) := fun a => top_bit n 13 (by simpa using a.1) (by simpa using a.2) h'
  have k14 : ¬ (16384 < n ∧ n < 32768) := fun a => top_bit n 14 (by simpa using a.1) (by simpa using a.2) h'
  have k15 : ¬ (32768 < n ∧ n < 65536) := fun a => top_bit n 15 (by simpa using a.1) (by simpa using a.2) h'
  omega
 ·intro h
  have h2 : n = 512 ∨ n = 1024 ∨ n = 2048 ∨ n = 4096 ∨ n = 8192 ∨ n = 16384 ∨ n = 32768 ∨ n = 65536 := by unfold pw at h; omega
  rcases h2 with rfl | rfl | rfl | rfl | rfl | rfl | rfl | rfl <;> decide
theorem zad {B : Nat} {a w : World} (h : Below B a w) (hB : B ≤ a.heap.size) (o : Obj) : Below B a (w.alloc o) := h.alloc (zN hB h.size) o
theorem zae {B : Nat} {a w w' : World} (h : Below B a w) (hB : B ≤ a.heap.size) (k : Below w.heap.size w w') : Below B a w' := h.trans (k.mono (zN hB h.size))
theorem zab {B : Nat} {a w : World} (h : Below B a w) (q : Nat) : Below B a (w.drewN q) := h.trans ⟨rfl, rfl, rfl, Lr, fun _ _ => rfl⟩
theorem zaf {w : World} {g : Nat} {o : Obj} (h : w.heap[g]? = some o) : g < w.heap.size := by
 rcases Nat.lt_or_ge g w.heap.size with hx | hx
 ·exact hx
 ·rw [Array.getElem?_eq_none hx] at h; cases h
theorem zag {w1 w2 : World} {g : Nat} {o : Obj} (h : w1.heap[g]? = some o) (hb : Below w1.heap.size w1 w2) : w2.heap[g]? = some o := (hb.block _ (zaf h)).trans h
theorem splice_mid (A X N C : List Int) (a : Nat) (hA : A.length = a) (hX : X.length = N.length) : splice (A ++ (X ++ C)) a N = A ++ (N ++ C) := by
 subst hA
 unfold splice
 have e : (A ++ (X ++ C)).drop (A.length + N.length) = C := by
  rw [← zM]
  exact List.drop_left' (by rw [zG, hX])
 rw [List.take_left, e]
theorem By_splice5 (l cs : List Int) (off : Nat) : splice (By l) off (By cs) = By (splice l off cs) := by simp [splice, By, List.map_take, List.map_drop]
theorem step_copy_rw {P : Program} {ops : Array Oper} {o : Oper} {a : Act} {w : World} {K : Act → World → Prop} {Q : Exit → Act → World → Prop} {E : Prop} (hgd : o.guard = none) (d s : Operand) (dT sT : TypeId)
  (ho : o.op = .call { callee := .builtin .copy, args := #[d, s], argTypes := #[dT, sT] }) (elem : TypeId) (hu : P.underlying dT = some (.slice elem)) (hsz : (P.info? elem).map (·.size) = some 1)
  (g off dLen dCap : Nat) (ad : Addr) (sLen sCap : Nat) (hd : a.eval d = .slice (some ⟨g, off, none⟩) dLen dCap) (hs : a.eval s = .slice (some ad) sLen sCap)
  (cur : List Value) (t : TypeId) (hg : w.heap[g]? = some (.cells cur.toArray t (0, 0))) (cs : List Value) (hn : cs.length = Nat.min sLen dLen)
  (hsrc : ∀ j v, cs[j]? = some v → w.cell? (ad.add j) = some v) (hfit : off + cs.length ≤ cur.length) (h1 : ∀ v ∈ cs, v.oneCell' = true)
  (h : ∀ u, Hid (u = w.setRow g (splice cur off cs).toArray) → K (a.put o.dst (goInt cs.length)) u) : if Region.wanted o (yielded ops a.tmps) = true then Oper.wp P o a w K Q else E := by
 have hw : Region.wanted o (yielded ops a.tmps) = true := by simp [Region.wanted, hgd]
 rw [if_pos hw]
 have hrun := run_copy_row (P := P) w dT sT o.type elem g off dLen dCap ad sLen sCap cur.toArray t cs hu hsz hg hn hsrc (by simpa using hfit) h1
 unfold Oper.wp
 simp [execOp, ho, resolve, invoke, builtin, hd, hs, hrun, Result.andThen]
 exact h _ (zaa (by simp [splice]))
theorem fixed_row (n x : Int) (w : World) (h0 : 0 ≤ n) (h1 : 1 ≤ x) (h2 : x ≤ 8) :
  Calls Tryz.prog 117 #[.int .u64 n, .int .i64 x] w fun e w' => ∃ b off c, e = .returned (.slice (some ⟨b, off, none⟩) x.toNat c) ∧ Hid (Sl w' (some ⟨b, off, none⟩) x.toNat c (fB x.toNat n)) ∧ Hid (Below w.heap.size w w') := by
 refine (fixed_yes n x w h0 h1 h2).mono ?_
 rintro e w' ⟨v, rfl, ho, hb⟩
 obtain ⟨ao, cap, rfl, hs, _⟩ := ho.sl (zbf _ _) (by rw [zah]; omega)
 rw [zah] at hs ⊢
 rcases hs.hat with h | ⟨b, off, rfl, hlt, hc⟩
 ·omega
 ·exact ⟨b, off, cap, rfl, hs, hb⟩
theorem sl_src5 {w : World} {b off n c : Nat} {l : List Int} (h : Sl w (some ⟨b, off, none⟩) n c l) : ∀ j v, (By l)[j]? = some v → w.cell? ((⟨b, off, none⟩ : Addr).add j) = some v := by
 intro j v hv
 obtain ⟨h1, rfl⟩ := getElem?_By l j v hv
 rw [Addr.add_lit]
 rcases h.hat with h0 | ⟨b', off', e, hlt, hc⟩
 ·have := h.hlen; omega
 ·injection e with e
  injection e with e1 e2
  subst e1 e2
  exact hc j (by have := h.hlen; omega)
def Bk (w : World) (g : Nat) (l : List Int) : Prop := w.heap[g]? = some (.cells (By l).toArray 5 (0, 0))
theorem Bk.on {w w' : World} {g : Nat} {l : List Int} (h : Bk w g l) (hb : Below w.heap.size w w') : Bk w' g l := (hb.block _ (zaf h)).trans h
theorem zaw {w : World} {a i : Nat} {cs : List Value} {t : TypeId} {u : Value} (h : w.heap[a]? = some (.cells cs.toArray t (0, 0))) : (w.setCell ⟨a, i, none⟩ u).heap[a]? = some (.cells (cs.set i u).toArray t (0, 0)) := by
 have := setCell_eq_setRow w a i cs.toArray t (0, 0) u h
 rw [this, setRow_heap w a _ _ t _ h]
 simp
theorem Bk.cell {w : World} {g : Nat} {l : List Int} (h : Bk w g l) (k : Nat) (hk : k < l.length) : w.cell? ⟨g, k, none⟩ = some (.int .u8 (l.getD k 0)) := by
 rw [cell_of_row _ _ k _ _ _ h]
 simp [By, zI hk, List.getD]
theorem Bk.free {w : World} {g : Nat} {l : List Int} (h : Bk w g l) (k : Nat) : w.frozen? ⟨g, k, none⟩ = false := by
 unfold Bk at h
 simp [World.frozen?, h]
theorem Bk.sl {w : World} {g n : Nat} {l : List Int} (h : Bk w g l) (hl : l.length = n) (hw : Wf l) (hn : n ≤ 140737488355328) : Sl w (some ⟨g, 0, none⟩) n n l :=
 ⟨hl, Lr, hn, hw, (by intro h; cases h), .inr ⟨g, 0, rfl, zaf h, fun i hi => by rw [Nat.zero_add]; exact h.cell i (by omega)⟩⟩
theorem Sl.alloc5 {w : World} {ao : Option Addr} {n cap : Nat} {l : List Int} (h : Sl w ao n cap l) (o : Obj) : Sl (w.alloc o) ao n cap l := h.on Lr (Br.alloc Lr o)
theorem lit_cell5 (w : World) (cs : Array Value) (t : TypeId) (f : Nat × Nat) (i B : Nat) (hB : w.heap.size = B) : (w.alloc (.cells cs t f)).cell? ⟨B, i, none⟩ = cs[i]? := by
 subst hB
 unfold World.cell?
 rw [show (w.alloc (.cells cs t f)).heap[w.heap.size]? = some (.cells cs t f) from heap_alloc_new w _]
 rfl
theorem sls_one5 (w : World) (a : Option Addr) (n c : Nat) (la : List Int) (ha : Sl w a n c la) (B : Nat) (hB : w.heap.size = B) : SlS (w.alloc (.cells #[.slice a n c] 22)) (some ⟨B, 0, none⟩) 1 1 [la] := by
 refine ⟨rfl, Lr, by omega, (by intro h; cases h), .inr ⟨B, 0, rfl, by simp; omega, fun i hi => ?_⟩⟩
 obtain rfl : i = 0 := by omega
 exact ⟨a, n, c, lit_cell5 _ _ _ _ _ _ hB, ha.alloc5 _⟩
theorem SlS.drew5 {w : World} {ao : Option Addr} {n cap : Nat} {ls : List (List Int)} (h : SlS w ao n cap ls) : SlS w.drew ao n cap ls := by
 refine ⟨h.hlen, h.hcap, h.hroom, h.hnil, ?_⟩
 rcases h.hat with h0 | ⟨b, off, e, hb, hc⟩
 ·exact .inl h0
 ·refine .inr ⟨b, off, e, hb, fun i hi => ?_⟩
  obtain ⟨a, m, c, h1, h2⟩ := hc i hi
  exact ⟨a, m, c, h1, h2.on Lr Br.drew⟩
def zbt (pg ct lo hi : Int) : Prop := (2 ≤ pg ∧ pg ≤ 65535) ∧ (lo ≤ ct ∧ ct ≤ hi)
def zbp (page : Int) (kd : Int) (vn : Nat) (pg ct : Int) : Prop :=
 (kd = 1 ∧ (vn : Int) ≤ page / 16 * 3 ∧ (pg = 0 ∧ ct = 0)) ∨ (kd = 2 ∧ vn = 0 ∧ zbt pg ct (page / 16 * 3 + 1) 65536) ∨ (kd = 4 ∧ vn = 0 ∧ ((pg = 0 ∧ ct = 0) ∨ zbt pg ct 1 1073741824))
def mayN (kind page : Int) (kn : Nat) (kd : Int) (vn : Nat) (pg ct : Int) : Prop :=
 (kn : Int) ≤ page / 8 ∧ ((kind = 3 ∧ kd = 3 ∧ vn = 0 ∧ zbt pg ct 1 1073741824) ∨ (kind ≠ 3 ∧ 0 < kn ∧ zbp page kd vn pg ct))
theorem mayP_iff (k p : Int) (c : Cl) : mayN k p c.key.length c.kd c.val.length c.pg c.ct ↔ mayP k p c := by
 simp only [mayN, mayP, zbp, zbt, zcc, zcg, List.length_eq_zero_iff]
theorem ret_bool {b c : Bool} (h : b = c) : Ending.returned (.bool b) = .returned (.bool c) := by rw [h]
theorem zdv (n lo hi : Int) (w : World) : Calls Tryz.prog 69 #[.int .i64 n, .int .i64 lo, .int .i64 hi] w fun e w' => e = .returned (.bool (decide (lo ≤ n ∧ n ≤ hi))) ∧ w' = w := by
 go_enter Tryz.func69, Tryz.ntmps69
 go_wp2
 all_goals go_ret
 all_goals refine ⟨ret_bool ?_, rfl⟩
 all_goals (rw [Bool.eq_iff_iff]; first | (simp; done) | (simp; omega) | (simp_all; done) | (simp_all; omega))
theorem zbv (k : Int) (w : World) : Calls Tryz.prog 78 #[.int .i64 k] w fun e w' => e = .returned (.bool (decide (isKd k))) ∧ w' = w := by
 go_enter Tryz.func78, Tryz.ntmps78
 go_wp2
 all_goals go_ret
 all_goals refine ⟨ret_bool ?_, rfl⟩
 all_goals (rw [Bool.eq_iff_iff]; first | (simp [isKd]; done) | (simp [isKd]; omega) | (simp_all [isKd]; done) | (simp_all [isKd]; omega))
theorem zdg (p : Int) (w : World) (h0 : 0 ≤ p) (h1 : p ≤ 65536) : Calls Tryz.prog 32 #[.int .i64 p] w fun e w' => e = .returned (.int .i64 (p / 8)) ∧ w' = w := by
 go_enter Tryz.func32, Tryz.ntmps32
 go_wp2
 go_ret
 exact ⟨rfl, rfl⟩
theorem zci (p : Int) (w : World) (h0 : 0 ≤ p) (h1 : p ≤ 65536) : Calls Tryz.prog 33 #[.int .i64 p] w fun e w' => e = .returned (.int .i64 (p / 16 * 3)) ∧ w' = w := by
 go_enter Tryz.func33, Tryz.ntmps33
 go_wp2
 go_ret
 exact ⟨rfl, rfl⟩
theorem zbi (p : Int) (w : World) : Calls Tryz.prog 31 #[.int .i64 p] w fun e w' => e = .returned (.bool (decide (pw p))) ∧ w' = w := by
 by_cases h : 512 ≤ p ∧ p ≤ 65536
 ·have hp := pow_iff p h.1 h.2
  have h1 := h.1
  have h2 := h.2
  have e : decide (512 ≤ p ∧ p ≤ 65536) = true := by simpa using h
  obtain ⟨z, hz⟩ : ∃ z, bits .and .i64 p (p - 1) = z := ⟨_, rfl⟩
  rw [hz] at hp
  rw [show decide (pw p) = decide (z = 0) from by simp [hp]]
  clear hp
  go_enter Tryz.func31, Tryz.ntmps31
  go_wp2_with (go_at_call 69; refine zac (zdv _ _ _ _) ?_; rw [e])
  all_goals go_ret
  all_goals refine ⟨?_, rfl⟩
  all_goals (congr 2 <;> simp)
 ·have e : decide (512 ≤ p ∧ p ≤ 65536) = false := by simpa using h
  have e2 : decide (pw p) = false := by
   rw [zP]
   exact fun hq => h (pw_le hq)
  rw [e2]
  go_enter Tryz.func31, Tryz.ntmps31
  go_wp2_with (go_at_call 69; refine zac (zdv _ _ _ _) ?_; rw [e])
  go_ret
  exact ⟨rfl, rfl⟩
theorem zef (ka : Option Addr) (kn kc : Nat) (kd : Int) (va : Option Addr) (vn vc : Nat) (pg ct : Int) (w : World) :
  Calls Tryz.prog 145 #[.agg #[.slice ka kn kc, .int .i64 kd, .slice va vn vc, .int .i64 pg, .int .i64 ct]] w fun e w' => e = .returned (.bool (decide (pg = 0 ∧ ct = 0))) ∧ Below w.heap.size w w' := by
 go_enter Tryz.func145, Tryz.ntmps145
 go_wp2
 all_goals go_ret
 all_goals refine ⟨ret_bool ?_, Br.alloc Lr _⟩
 all_goals (rw [Bool.eq_iff_iff]; first | (simp; done) | (simp; omega) | (simp_all; done) | (simp_all; omega))
instance (a b c d : Int) : Decidable (zbt a b c d) := by unfold zbt; infer_instance
theorem leads_any (ka : Option Addr) (kn kc : Nat) (kd : Int) (va : Option Addr) (vn vc : Nat) (pg ct lo hi : Int) (w : World) :
  Calls Tryz.prog 109 #[.agg #[.slice ka kn kc, .int .i64 kd, .slice va vn vc, .int .i64 pg, .int .i64 ct], .int .i64 lo, .int .i64 hi] w fun e w' => e = .returned (.bool (decide (zbt pg ct lo hi))) ∧ Below w.heap.size w w' := by
 have hq : decide (zbt pg ct lo hi) = (decide (2 ≤ pg ∧ pg ≤ 65535) && decide (lo ≤ ct ∧ ct ≤ hi)) := by rw [Bool.eq_iff_iff, zQ]; simp [zbt]
 rw [hq]
 cases h1 : decide (2 ≤ pg ∧ pg ≤ 65535)
 ·go_enter Tryz.func109, Tryz.ntmps109
  go_wp2_with (go_at_call 69; refine zac (zdv _ _ _ _) ?_; rw [h1])
  go_ret
  exact ⟨rfl, Br.alloc Lr _⟩
 ·have W2 := fun u => zdv ct lo hi u
  cases h2 : decide (lo ≤ ct ∧ ct ≤ hi)
  all_goals
   go_enter Tryz.func109, Tryz.ntmps109
   go_wp2_with (go_at_call 69; refine zac (zdv _ _ _ _) ?_; first | rw [h1] | rw [h2])
   go_ret
   exact ⟨rfl, Br.alloc Lr _⟩
theorem box5 {w w1 : World} {x0 x1 x2 x3 x4 : Value} {t : TypeId} (hb : Below (w.alloc (.cells #[x0, x1, x2, x3, x4] t)).heap.size (w.alloc (.cells #[x0, x1, x2, x3, x4] t)) w1) :
  w1.cell? ⟨w.heap.size, 0, none⟩ = some x0 ∧ w1.cell? ⟨w.heap.size, 1, none⟩ = some x1 ∧ w1.cell? ⟨w.heap.size, 2, none⟩ = some x2 ∧ w1.cell? ⟨w.heap.size, 3, none⟩ = some x3 ∧ w1.cell? ⟨w.heap.size, 4, none⟩ = some x4 := by
 have hl : w.heap.size < (w.alloc (.cells #[x0, x1, x2, x3, x4] t)).heap.size := by simp
 refine ⟨(hb.cell (p := ⟨w.heap.size, 0, none⟩) hl).trans (by simp), (hb.cell (p := ⟨w.heap.size, 1, none⟩) hl).trans (by simp), (hb.cell (p := ⟨w.heap.size, 2, none⟩) hl).trans (by simp), (hb.cell (p := ⟨w.heap.size, 3, none⟩) hl).trans (by simp), (hb.cell (p := ⟨w.heap.size, 4, none⟩) hl).trans (by simp)⟩
theorem al5 {w w1 : World} {o : Obj} (hb : Below (w.alloc o).heap.size (w.alloc o) w1) : Below w.heap.size w w1 := zae (zad (Below.refl _ w) Lr _) Lr hb
instance (p k : Int) (v : Nat) (a b : Int) : Decidable (zbp p k v a b) := by unfold zbp; infer_instance
instance (k p : Int) (n : Nat) (kd : Int) (v : Nat) (a b : Int) : Decidable (mayN k p n kd v a b) := by unfold mayN; infer_instance
theorem inLeaf_any (page : Int) (ka : Option Addr) (kn kc : Nat) (kd : Int) (va : Option Addr) (vn vc : Nat) (pg ct : Int) (w : World) (h0 : 0 ≤ page) (h1 : page ≤ 65536) (hv : vn ≤ 140737488355328) :
  Calls Tryz.prog 110 #[.int .i64 page, .agg #[.slice ka kn kc, .int .i64 kd, .slice va vn vc, .int .i64 pg, .int .i64 ct]] w fun e w' => e = .returned (.bool (decide (zbp page kd vn pg ct))) ∧ Below w.heap.size w w' := by
 have hm : 0 ≤ page / 16 * 3 ∧ page / 16 * 3 ≤ 65535 := by omega
 have hal := (Below.refl w.heap.size w).alloc Lr (.cells #[.slice ka kn kc, .int .i64 kd, .slice va vn vc, .int .i64 pg, .int .i64 ct] 50)
 by_cases k1 : kd = 1
 ·have hq : decide (zbp page kd vn pg ct) = (decide ((vn : Int) ≤ page / 16 * 3) && decide (pg = 0 ∧ ct = 0)) := by rw [Bool.eq_iff_iff, zQ]; simp [zbp, k1]
  rw [hq]
  subst k1
  clear hq
  by_cases h : (vn : Int) ≤ page / 16 * 3
  ·rw [decide_eq_true h, Bool.true_and]
   have d1 : decide ((vn : Int) ≤ page / 16 * 3) = true := decide_eq_true h
   cases hr : decide (pg = 0 ∧ ct = 0)
   all_goals
    go_enter Tryz.func110, Tryz.ntmps110
    go_wp2_with fail
    go_region_with (first | (go_at_call 33; refine zac (zci _ _ h0 h1) ?_) | (go_at_call 145; refine (zef _ _ _ _ _ _ _ _ _ _).mono ?_; rintro e w1 ⟨rfl, hb1⟩; have hbw := zae (show Below w.heap.size w _ from by first | exact hal | exact hal.drew | exact zab hal _ | exact (zab hal _).drew | go_grown) Lr hb1; rw [hr]))
    all_goals (try go_wp2); all_goals (go_ret; exact ⟨rfl, by first | exact hbw | exact hbw.drew | exact zab hbw _⟩)
  ·rw [decide_eq_false h, Bool.false_and]
   have d1 : decide ((vn : Int) ≤ page / 16 * 3) = false := decide_eq_false h
   go_enter Tryz.func110, Tryz.ntmps110
   go_wp2_with fail
   go_quiet (first | (go_at_call 33; exact Calls.quiet_of_same (zci _ _ h0 h1)))
   go_wp2
   go_ret
   exact ⟨rfl, by first | exact hal | exact zab hal _⟩
 ·by_cases hz : vn = 0
  ·subst hz
   by_cases k2 : kd = 2
   ·have hq : decide (zbp page kd 0 pg ct) = decide (zbt pg ct (page / 16 * 3 + 1) 65536) := by rw [Bool.eq_iff_iff, zQ]; simp [zbp, k2]
    rw [hq]
    subst k2
    clear hq
    have hw1 : IntKind.i64.wrap (page / 16 * 3 + 1) = page / 16 * 3 + 1 := by rw [IntKind.wrap_i64]; omega
    have hw2 : wrap64 (page / 16 * 3 + 1) = page / 16 * 3 + 1 := by simp [wrap64]; omega
    generalize hr : decide (zbt pg ct (page / 16 * 3 + 1) 65536) = r
    go_enter Tryz.func110, Tryz.ntmps110
    go_wp2_with fail
    go_region_with (first | (go_at_call 33; refine zac (zci _ _ h0 h1) ?_) | (go_at_call 109; refine (leads_any _ _ _ _ _ _ _ _ _ _ _ _).mono ?_; rintro e w1 ⟨rfl, hb1⟩; have hbw := zae (show Below w.heap.size w _ from by first | exact hal | exact hal.drew | exact zab hal _ | exact (zab hal _).drew | go_grown) Lr hb1; first | rw [hr] | rw [hw1, hr] | rw [hw2, hr]))
    all_goals (try go_wp2); all_goals (go_ret; exact ⟨rfl, by first | exact hbw | exact hbw.drew | exact zab hbw _⟩)
   ·by_cases k4 : kd = 4
    ·have hq : decide (zbp page kd 0 pg ct) = (decide (pg = 0 ∧ ct = 0) || decide (zbt pg ct 1 1073741824)) := by rw [Bool.eq_iff_iff, zQ]; simp [zbp, k4]
     rw [hq]
     subst k4
     clear hq
     cases hr : decide (pg = 0 ∧ ct = 0)
     ·cases hs : decide (zbt pg ct 1 1073741824)
      all_goals
       go_enter Tryz.func110, Tryz.ntmps110
       go_wp2_with (first | (go_at_call 145; refine (zef _ _ _ _ _ _ _ _ _ _).mono ?_; rintro e w1 ⟨rfl, hb1⟩; rw [hr]; obtain ⟨c0, c1, c2, c3, c4⟩ := box5 hb1) | (go_at_call 109; refine (leads_any _ _ _ _ _ _ _ _ _ _ _ _).mono ?_; rintro e w2 ⟨rfl, hb2⟩; rw [hs]))
       go_ret
       exact ⟨rfl, zae (al5 hb1) Lr hb2⟩
     ·go_enter Tryz.func110, Tryz.ntmps110
      go_wp2_with (go_at_call 145; refine (zef _ _ _ _ _ _ _ _ _ _).mono ?_; rintro e w1 ⟨rfl, hb1⟩; rw [hr])
      go_ret
      exact ⟨rfl, al5 hb1⟩
    ·have hq : decide (zbp page kd 0 pg ct) = false := by rw [zP]; simp [zbp, k1, k2, k4]
     rw [hq]
     clear hq
     go_enter Tryz.func110, Tryz.ntmps110
     go_wp2
     go_ret
     exact ⟨rfl, hal⟩
  ·have hq : decide (zbp page kd vn pg ct) = false := by rw [zP]; simp [zbp, k1, hz]
   rw [hq]
   clear hq
   have hz' : 0 < (vn : Int) := by omega
   go_enter Tryz.func110, Tryz.ntmps110
   go_wp2
   go_ret
   exact ⟨rfl, hal⟩
theorem mayBe_any (kind page : Int) (ka : Option Addr) (kn kc : Nat) (kd : Int) (va : Option Addr) (vn vc : Nat) (pg ct : Int) (w : World) (h0 : 0 ≤ page) (h1 : page ≤ 65536) (hk : kn ≤ 140737488355328) (hv : vn ≤ 140737488355328) :
  Calls Tryz.prog 71 #[.int .i64 kind, .int .i64 page, .agg #[.slice ka kn kc, .int .i64 kd, .slice va vn vc, .int .i64 pg, .int .i64 ct]] w fun e w' => e = .returned (.bool (decide (mayN kind page kn kd vn pg ct))) ∧ Below w.heap.size w w' := by
 have hm : 0 ≤ page / 8 ∧ page / 8 ≤ 65535 := by omega
 have hal := (Below.refl w.heap.size w).alloc Lr (.cells #[.slice ka kn kc, .int .i64 kd, .slice va vn vc, .int .i64 pg, .int .i64 ct] 50)
 by_cases h : (kn : Int) ≤ page / 8
 ·have d1 : decide (page / 8 < (kn : Int)) = false := decide_eq_false (by omega)
  by_cases k3 : kind = 3
  ·have hq : decide (mayN kind page kn kd vn pg ct) = (decide (kd = 3) && (decide (vn = 0) && decide (zbt pg ct 1 1073741824))) := by rw [Bool.eq_iff_iff, zQ]; simp [mayN, h, k3]
   rw [hq]
   subst k3
   clear hq
   by_cases d3 : kd = 3
   ·subst d3
    by_cases hz : vn = 0
    ·subst hz
     cases hs : decide (zbt pg ct 1 1073741824)
     all_goals
      go_enter Tryz.func71, Tryz.ntmps71
      go_wp2_with fail
      go_quiet (first | (go_at_call 33; exact Calls.quiet_of_same (zci _ _ h0 h1)) | (go_at_call 32; exact Calls.quiet_of_same (zdg _ _ h0 h1)))
      go_wp2_with (go_at_call 109; refine (leads_any _ _ _ _ _ _ _ _ _ _ _ _).mono ?_; rintro e w1 ⟨rfl, hb1⟩; have hbw := zae (show Below w.heap.size w _ from by first | exact hal | exact hal.drew | exact zab hal _ | exact (zab hal _).drew | go_grown) Lr hb1; rw [hs])
      all_goals (try go_wp2); all_goals (go_ret; exact ⟨rfl, by first | exact hbw | exact hbw.drew | exact zab hbw _⟩)
    ·have hz' : 0 < (vn : Int) := by omega
     have hz2 : ¬ (vn : Int) = 0 := by omega
     rw [decide_eq_false hz]
     go_enter Tryz.func71, Tryz.ntmps71
     go_wp2_with fail
     go_quiet (first | (go_at_call 33; exact Calls.quiet_of_same (zci _ _ h0 h1)) | (go_at_call 32; exact Calls.quiet_of_same (zdg _ _ h0 h1)))
     go_wp2
     go_ret
     exact ⟨rfl, by first | exact hal | exact zab hal _⟩
   ·rw [decide_eq_false d3]
    go_enter Tryz.func71, Tryz.ntmps71
    go_wp2_with fail
    go_quiet (first | (go_at_call 33; exact Calls.quiet_of_same (zci _ _ h0 h1)) | (go_at_call 32; exact Calls.quiet_of_same (zdg _ _ h0 h1)))
    go_wp2
    go_ret
    exact ⟨rfl, by first | exact hal | exact zab hal _⟩
  ·have hq : decide (mayN kind page kn kd vn pg ct) = (decide (0 < kn) && decide (zbp page kd vn pg ct)) := by rw [Bool.eq_iff_iff, zQ]; simp [mayN, h, k3]
   rw [hq]
   clear hq
   by_cases hz : 0 < kn
   ·have hz' : 0 < (kn : Int) := by omega
    rw [decide_eq_true hz]
    cases hs : decide (zbp page kd vn pg ct)
    all_goals
     go_enter Tryz.func71, Tryz.ntmps71
     go_wp2_with fail
     go_quiet (first | (go_at_call 33; exact Calls.quiet_of_same (zci _ _ h0 h1)) | (go_at_call 32; exact Calls.quiet_of_same (zdg _ _ h0 h1)))
     go_wp2_with (go_at_call 110; refine (inLeaf_any _ _ _ _ _ _ _ _ _ _ _ h0 h1 hv).mono ?_; rintro e w1 ⟨rfl, hb1⟩; have hbw := zae (show Below w.heap.size w _ from by first | exact hal | exact hal.drew | exact zab hal _ | exact (zab hal _).drew | go_grown) Lr hb1; rw [hs])
     all_goals (try go_wp2); all_goals (go_ret; exact ⟨rfl, by first | exact hbw | exact hbw.drew | exact zab hbw _⟩)
   ·obtain rfl : kn = 0 := by omega
    go_enter Tryz.func71, Tryz.ntmps71
    go_wp2_with fail
    go_quiet (first | (go_at_call 33; exact Calls.quiet_of_same (zci _ _ h0 h1)) | (go_at_call 32; exact Calls.quiet_of_same (zdg _ _ h0 h1)))
    go_wp2
    go_ret
    exact ⟨rfl, by first | exact hal | exact zab hal _⟩
 ·have d1 : decide (page / 8 < (kn : Int)) = true := decide_eq_true (by omega)
  have hq : decide (mayN kind page kn kd vn pg ct) = false := by rw [zP]; simp [mayN, h]
  rw [hq]
  clear hq
  go_enter Tryz.func71, Tryz.ntmps71
  go_wp2_with fail
  go_quiet (first | (go_at_call 33; exact Calls.quiet_of_same (zci _ _ h0 h1)) | (go_at_call 32; exact Calls.quiet_of_same (zdg _ _ h0 h1)))
  go_wp2
  go_ret
  exact ⟨rfl, by first | exact hal | exact zab hal _⟩
theorem u8_lt (x y : Int) (hx : 0 ≤ x ∧ x ≤ 255) (hy : 0 ≤ y ∧ y ≤ 255) : UInt8.ofNat x.toNat < UInt8.ofNat y.toNat ↔ x < y := by
 rw [UInt8.lt_iff_toNat_lt, UInt8.toNat_ofNat', UInt8.toNat_ofNat']
 omega
theorem cmp_ord : ∀ (a b : List Int), Wf a → Wf b → Lib.compareBytes (Lib.bytesOf a) (Lib.bytesOf b) = ordL a b
 | [], [], _, _ => rfl
 | [], _ :: _, _, _ => rfl
 | _ :: _, [], _, _ => rfl
 | x :: a, y :: b, ha, hb => by
  have hx := ha x (by simp)
  have hy := hb y (by simp)
  have ih := cmp_ord a b (fun z hz => ha z (by simp [hz])) (fun z hz => hb z (by simp [hz]))
  unfold Lib.bytesOf at ih ⊢
  simp only [List.map_cons, Lib.compareBytes, ordL, u8_lt x y hx hy, u8_lt y x hy hx, ih]
theorem less_ord : ∀ (a b : List Int), Wf a → Wf b → Op.bytesLess (Lib.bytesOf a) (Lib.bytesOf b) = decide (kl a b)
 | [], [], _, _ => rfl
 | [], _ :: _, _, _ => rfl
 | _ :: _, [], _, _ => rfl
 | x :: a, y :: b, ha, hb => by
  have hx := ha x (by simp)
  have hy := hb y (by simp)
  have ih := less_ord a b (fun z hz => ha z (by simp [hz])) (fun z hz => hb z (by simp [hz]))
  unfold Lib.bytesOf at ih ⊢
  unfold kl at ih ⊢
  have heq : UInt8.ofNat x.toNat = UInt8.ofNat y.toNat ↔ x = y := ⟨byte_inj hx hy, fun e => by rw [e]⟩
  simp only [List.map_cons, Op.bytesLess, ordL, u8_lt x y hx hy, ih]
  by_cases h1 : x < y
  ·simp [h1]
  ·by_cases h2 : y < x
   ·have : ¬ x = y := by omega
    simp [h1, h2, heq, this]
   ·have : x = y := by omega
    simp [this]
theorem str_less {a b : List Int} (ha : Wf a) (hb : Wf b) : Op.bytesLess (strOfNums a).toList (strOfNums b).toList = decide (kl a b) := by
 rw [Lib.strOfNums_toList, Lib.strOfNums_toList, less_ord a b ha hb]
theorem run_bytes {w : World} {ao : Option Addr} {n cap : Nat} {l : List Int} (h : Sl w ao n cap l) : (Extern.Bytes.bytesOf (.slice ao n cap)).run Tryz.prog w = .ok ⟨(Lib.bytesOf l).toArray⟩ w := by
 obtain ⟨hlen, hcap, hroom, hwf, hnil, hat⟩ := h
 have he : (⟨ByteArray.empty.data ++ (Lib.bytesOf l).toArray⟩ : ByteArray) = ⟨(Lib.bytesOf l).toArray⟩ := by
  apply ByteArray.ext
  show (#[] : Array UInt8) ++ (Lib.bytesOf l).toArray = (Lib.bytesOf l).toArray
  simp
 cases ao with
 | none =>
  have : n = 0 := by have := hnil rfl; omega
  obtain rfl : l = [] := List.eq_nil_of_length_eq_zero (by omega)
  rfl
 | some a =>
  have hl := Lib.run_loadBytesX (P := Tryz.prog) w l a .empty (fun j x hj => by
   have hjl : j < l.length := (zH.1 hj).1
   rcases hat with h0 | ⟨b, off, e, hb, hc⟩
   ·omega
   ·injection e with e
    subst e
    rw [Addr.add_lit, hc j (by omega), List.getD_eq_getElem?_getD, hj]
    rfl)
  rw [hlen, he] at hl
  simpa [Extern.Bytes.bytesOf] using hl
theorem run_cmp {w : World} {ao bo : Option Addr} {n m c d : Nat} {la lb : List Int} (ha : Sl w ao n c la) (hb : Sl w bo m d lb) :
  (Extern.BytealgCompare.compare #[.slice ao n c, .slice bo m d]).run Tryz.prog w = .ok (.int .i64 (ordL la lb)) w := by
 change Sem.run Tryz.prog (do pure (goInt (Extern.BytealgCompare.cmp (← Extern.Bytes.bytesOf (.slice ao n c)) (← Extern.Bytes.bytesOf (.slice bo m d))))) w = _
 simp only [Sem.run_bind, run_bytes ha, run_bytes hb, Sem.run_pure, Result.andThen]
 rw [Lib.cmp_eq, show (⟨(Lib.bytesOf la).toArray⟩ : ByteArray).data.toList = Lib.bytesOf la from rfl, show (⟨(Lib.bytesOf lb).toArray⟩ : ByteArray).data.toList = Lib.bytesOf lb from rfl, cmp_ord la lb ha.wf hb.wf]
 rfl
theorem compare_any (ao bo : Option Addr) (n m c d : Nat) (la lb : List Int) (w : World) (ha : Sl w ao n c la) (hb : Sl w bo m d lb) :
  Calls Tryz.prog 111 #[.slice ao n c, .slice bo m d] w fun e w' => e = .returned (.int .i64 (ordL la lb)) ∧ w' = w := by
 have hr := run_cmp ha hb
 clear ha hb
 go_enter Tryz.func111, Tryz.ntmps111
 go_wp2
 rw [run_callFunc_extern Tryz.func146 (by kernel_rfl) (by kernel_rfl) (by kernel_rfl) (e := Extern.BytealgCompare.compare) (by kernel_rfl), hr]
 simp only [Result.andThen]
 rw [Oper.upon_value]
 go_wp2
 go_ret
 exact ⟨rfl, rfl⟩
theorem zdh (ao bo : Option Addr) (n m c d : Nat) (la lb : List Int) (w : World) (ha : Sl w ao n c la) (hb : Sl w bo m d lb) :
  Calls Tryz.prog 72 #[.slice ao n c, .slice bo m d] w fun e w' => e = .returned (.bool (decide (kl la lb))) ∧ w' = w := by
 have hr := compare_any ao bo n m c d la lb w ha hb
 have hq : decide (kl la lb) = decide (ordL la lb < 0) := by
  have := ordL_three la lb
  refine decide_eq_decide.2 ?_
  unfold kl
  omega
 rw [hq]
 clear ha hb hq
 generalize ordL la lb = x at *
 go_enter Tryz.func72, Tryz.ntmps72
 go_wp2_with (go_at_call 111; refine zac hr ?_)
 go_ret
 exact ⟨rfl, rfl⟩
end Go.Proofs.YtbkhjeacmmbabaaGreatDoor
