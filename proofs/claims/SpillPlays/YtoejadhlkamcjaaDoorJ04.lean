import Derived.Test.YtoejadhlkamcjaaDoorJ03
import Derived.Lib.SlBuf
import Derived.Lib.BufferWrite
import Derived.Laws.CopyOwn
import Derived.Deep.RegionLaw
namespace Go.Proofs.YtoejadhlkamcjaaDoor
set_option maxRecDepth 100000
open Go.RowKit
theorem splice_mid (A X N C : List Int) (a : Nat) (hA : A.length = a) (hX : X.length = N.length) : splice (A ++ (X ++ C)) a N = A ++ (N ++ C) := by
 subst hA
 unfold splice
 have e : (A ++ (X ++ C)).drop (A.length + N.length) = C := by
  rw [← List.append_assoc]
  exact List.drop_left' (by rw [List.length_append, hX])
 rw [List.take_left, e]
theorem By_splice5 (l cs : List Int) (off : Nat) : splice (By l) off (By cs) = By (splice l off cs) := by simp [splice, By, List.map_take, List.map_drop]
theorem step_copy_rw {P : Program} {ops : Array Oper} {o : Oper} {a : Act} {w : World} {K : Act → World → Prop} {Q : Exit → Act → World → Prop} {E : Prop} (hgd : o.guard = none) (d s : Operand) (dT sT : TypeId)
  (ho : o.op = .call { callee := .builtin .copy, args := #[d, s], argTypes := #[dT, sT] }) (elem : TypeId) (hu : P.underlying dT = some (.slice elem)) (hsz : (P.info? elem).map (·.size) = some 1)
  (g off dLen dCap : Nat) (ad : Addr) (sLen sCap : Nat) (hd : a.eval d = .slice (some ⟨g, off, none⟩) dLen dCap) (hs : a.eval s = .slice (some ad) sLen sCap)
  (cur : List Value) (t : TypeId) (hg : w.heap[g]? = some (.cells cur.toArray t (0, 0))) (cs : List Value) (hn : cs.length = Nat.min sLen dLen)
  (hsrc : ∀ j v, cs[j]? = some v → w.cell? (ad.add j) = some v) (hfit : off + cs.length ≤ cur.length) (h1 : ∀ v ∈ cs, v.oneCell' = true)
  (h : ∀ u, Hid (u = w.setRow g (splice cur off cs).toArray) → K (a.put o.dst (goInt cs.length)) u) : if Region.wanted o (yielded ops a.tmps) = true then Oper.wp P o a w K Q else E := by
 have hw : Region.wanted o (yielded ops a.tmps) = true := by simp [Region.wanted, hgd]
 rw [if_pos hw]
 have hrun := run_copy_row (P := P) w dT sT o.type elem g off dLen dCap ad sLen sCap cur.toArray t cs hu hsz hg hn hsrc (by simpa using hfit) h1
 unfold Oper.wp
 simp [execOp, ho, resolve, invoke, builtin, hd, hs, hrun, Result.andThen]
 exact h _ (hidden (by simp [splice]))
theorem fixed_row (n x : Int) (w : World) (h0 : 0 ≤ n) (h1 : 1 ≤ x) (h2 : x ≤ 8) :
  Calls Tryd.prog 40 #[.int .u64 n, .int .i64 x] w fun e w' => ∃ b off c, e = .returned (.slice (some ⟨b, off, none⟩) x.toNat c) ∧ Hid (Sl w' (some ⟨b, off, none⟩) x.toNat c (fB x.toNat n)) ∧ Hid (Below w.heap.size w w') := by
 refine (fixed_yes n x w h0 h1 h2).mono ?_
 rintro e w' ⟨v, rfl, ho, hb⟩
 obtain ⟨ao, cap, rfl, hs, _⟩ := ho.sl (fB_wf _ _) (by rw [fB_length]; omega)
 rw [fB_length] at hs ⊢
 rcases hs.hat with h | ⟨b, off, rfl, hlt, hc⟩
 ·omega
 ·exact ⟨b, off, cap, rfl, hs, hb⟩
theorem sl_src5 {w : World} {b off n c : Nat} {l : List Int} (h : Sl w (some ⟨b, off, none⟩) n c l) : ∀ j v, (By l)[j]? = some v → w.cell? ((⟨b, off, none⟩ : Addr).add j) = some v := by
 intro j v hv
 obtain ⟨h1, rfl⟩ := getElem?_By l j v hv
 rw [Addr.add_lit]
 rcases h.hat with h0 | ⟨b', off', e, hlt, hc⟩
 ·have := h.hlen; omega
 ·injection e with e
  injection e with e1 e2
  subst e1 e2
  exact hc j (by have := h.hlen; omega)
end Go.Proofs.YtoejadhlkamcjaaDoor

namespace Go.Proofs.YtoejadhlkamcjaaDoor
set_option maxRecDepth 100000
open Go.RowKit
def Bk (w : World) (g : Nat) (l : List Int) : Prop := w.heap[g]? = some (.cells (By l).toArray 5 (0, 0))
theorem Bk.on {w w' : World} {g : Nat} {l : List Int} (h : Bk w g l) (hb : Below w.heap.size w w') : Bk w' g l := (hb.block _ (lt_some h)).trans h
theorem set_row {w : World} {a i : Nat} {cs : List Value} {t : TypeId} {u : Value} (h : w.heap[a]? = some (.cells cs.toArray t (0, 0))) : (w.setCell ⟨a, i, none⟩ u).heap[a]? = some (.cells (cs.set i u).toArray t (0, 0)) := by
 have := setCell_eq_setRow w a i cs.toArray t (0, 0) u h
 rw [this, setRow_heap w a _ _ t _ h]
 simp
theorem Bk.cell {w : World} {g : Nat} {l : List Int} (h : Bk w g l) (k : Nat) (hk : k < l.length) : w.cell? ⟨g, k, none⟩ = some (.int .u8 (l.getD k 0)) := by
 rw [cell_of_row _ _ k _ _ _ h]
 simp [By, List.getElem?_eq_getElem hk, List.getD]
theorem Bk.free {w : World} {g : Nat} {l : List Int} (h : Bk w g l) (k : Nat) : w.frozen? ⟨g, k, none⟩ = false := by
 unfold Bk at h
 simp [World.frozen?, h]
theorem Bk.sl {w : World} {g n : Nat} {l : List Int} (h : Bk w g l) (hl : l.length = n) (hw : Wf l) (hn : n ≤ 140737488355328) : Sl w (some ⟨g, 0, none⟩) n n l :=
 ⟨hl, Nat.le_refl _, hn, hw, (by intro h; cases h), .inr ⟨g, 0, rfl, lt_some h, fun i hi => by rw [Nat.zero_add]; exact h.cell i (by omega)⟩⟩
theorem Sl.alloc5 {w : World} {ao : Option Addr} {n cap : Nat} {l : List Int} (h : Sl w ao n cap l) (o : Obj) : Sl (w.alloc o) ao n cap l := h.on (Nat.le_refl _) ((Below.refl _ _).alloc (Nat.le_refl _) o)
theorem lit_cell5 (w : World) (cs : Array Value) (t : TypeId) (f : Nat × Nat) (i B : Nat) (hB : w.heap.size = B) : (w.alloc (.cells cs t f)).cell? ⟨B, i, none⟩ = cs[i]? := by
 subst hB
 unfold World.cell?
 rw [show (w.alloc (.cells cs t f)).heap[w.heap.size]? = some (.cells cs t f) from heap_alloc_new w _]
 rfl
theorem sls_one5 (w : World) (a : Option Addr) (n c : Nat) (la : List Int) (ha : Sl w a n c la) (B : Nat) (hB : w.heap.size = B) : SlS (w.alloc (.cells #[.slice a n c] 33)) (some ⟨B, 0, none⟩) 1 1 [la] := by
 refine ⟨rfl, Nat.le_refl _, by omega, (by intro h; cases h), .inr ⟨B, 0, rfl, by simp; omega, fun i hi => ?_⟩⟩
 obtain rfl : i = 0 := by omega
 exact ⟨a, n, c, lit_cell5 _ _ _ _ _ _ hB, ha.alloc5 _⟩
theorem SlS.drew5 {w : World} {ao : Option Addr} {n cap : Nat} {ls : List (List Int)} (h : SlS w ao n cap ls) : SlS w.drew ao n cap ls := by
 refine ⟨h.hlen, h.hcap, h.hroom, h.hnil, ?_⟩
 rcases h.hat with h0 | ⟨b, off, e, hb, hc⟩
 ·exact .inl h0
 ·refine .inr ⟨b, off, e, hb, fun i hi => ?_⟩
  obtain ⟨a, m, c, h1, h2⟩ := hc i hi
  exact ⟨a, m, c, h1, h2.on (Nat.le_refl _) (Below.refl _ _).drew⟩
end Go.Proofs.YtoejadhlkamcjaaDoor

namespace Go.Proofs.YtoejadhlkamcjaaDoor
set_option maxRecDepth 100000
open Go.RowKit
def leadsN (pg ct lo hi : Int) : Prop := (2 ≤ pg ∧ pg ≤ 65535) ∧ (lo ≤ ct ∧ ct ≤ hi)
theorem ret_bool {b c : Bool} (h : b = c) : Ending.returned (.bool b) = .returned (.bool c) := by rw [h]
theorem within_any (n lo hi : Int) (w : World) : Calls Tryd.prog 57 #[.int .i64 n, .int .i64 lo, .int .i64 hi] w fun e w' => e = .returned (.bool (decide (lo ≤ n ∧ n ≤ hi))) ∧ w' = w := by
 go_enter Tryd.func57, Tryd.ntmps57
 go_wp2
 all_goals go_ret
 all_goals refine ⟨ret_bool ?_, rfl⟩
 all_goals (rw [Bool.eq_iff_iff]; first | (simp; done) | (simp; omega) | (simp_all; done) | (simp_all; omega))
theorem isSize_any (p : Int) (w : World) : Calls Tryd.prog 37 #[.int .i64 p] w fun e w' => e = .returned (.bool (decide (pw p))) ∧ w' = w := by
 by_cases h : 512 ≤ p ∧ p ≤ 65536
 ·have hp := pow_iff p h.1 h.2
  have h1 := h.1
  have h2 := h.2
  have e : decide (512 ≤ p ∧ p ≤ 65536) = true := by simpa using h
  obtain ⟨z, hz⟩ : ∃ z, bits .and .i64 p (p - 1) = z := ⟨_, rfl⟩
  rw [hz] at hp
  rw [show decide (pw p) = decide (z = 0) from by simp [hp]]
  clear hp
  go_enter Tryd.func37, Tryd.ntmps37
  go_wp2_with (go_at_call 57; refine same_call (within_any _ _ _ _) ?_; rw [e])
  all_goals go_ret
  all_goals refine ⟨?_, rfl⟩
  all_goals (congr 2 <;> simp)
 ·have e : decide (512 ≤ p ∧ p ≤ 65536) = false := by simpa using h
  have e2 : decide (pw p) = false := by
   rw [decide_eq_false_iff_not]
   exact fun hq => h (pw_le hq)
  rw [e2]
  go_enter Tryd.func37, Tryd.ntmps37
  go_wp2_with (go_at_call 57; refine same_call (within_any _ _ _ _) ?_; rw [e])
  go_ret
  exact ⟨rfl, rfl⟩
instance (a b c d : Int) : Decidable (leadsN a b c d) := by unfold leadsN; infer_instance
end Go.Proofs.YtoejadhlkamcjaaDoor

namespace Go.Proofs.YtoejadhlkamcjaaDoor
set_option maxRecDepth 100000
open Go.RowKit
theorem mayBeNext_any (n : Int) (w : World) : Calls Tryd.prog 38 #[.int .i64 n] w fun e w' => e = .returned (.bool (decide (nxt n))) ∧ w' = w := by
 go_enter Tryd.func38, Tryd.ntmps38
 go_wp2
 all_goals go_ret
 all_goals refine ⟨ret_bool ?_, rfl⟩
 all_goals (rw [Bool.eq_iff_iff]; unfold nxt; first | (simp; done) | (simp; omega) | (simp_all; done) | (simp_all; omega))
theorem hold_any (p : Int) (w : World) (h0 : 0 ≤ p) (h1 : p ≤ 65536) : Calls Tryd.prog 39 #[.int .i64 p] w fun e w' => e = .returned (.int .i64 (p - 16)) ∧ w' = w := by
 go_enter Tryd.func39, Tryd.ntmps39
 go_wp2
 go_ret
 exact ⟨ret_int (by omega), rfl⟩
def ly1 (P : Nat) : List Int := [4, 0, 0, 0] ++ (zs 4 ++ (zs 4 ++ zs (P - 12)))
def ly2 (n : Int) (P : Nat) : List Int := [4, 0, 0, 0] ++ (fB 4 n ++ (zs 4 ++ zs (P - 12)))
def ly3 (n : Int) (dn P : Nat) : List Int := [4, 0, 0, 0] ++ (fB 4 n ++ (fB 4 dn ++ zs (P - 12)))
def ly4 (n : Int) (d : List Int) (P : Nat) : List Int := [4, 0, 0, 0] ++ (fB 4 n ++ (fB 4 d.length ++ (d ++ zs (P - 12 - d.length))))
theorem ly1_of (P : Nat) (h : 512 ≤ P) : (zs P).set 0 4 = ly1 P := by
 have e : zs P = [0, 0, 0, 0] ++ (zs 4 ++ (zs 4 ++ zs (P - 12))) := by
  conv => lhs; rw [show P = 4 + (4 + (4 + (P - 12))) by omega, zs_add, zs_add, zs_add]
  rfl
 rw [e]
 rfl
theorem ly2_of (n : Int) (P : Nat) : splice (ly1 P) 4 (fB 4 n) = ly2 n P := splice_mid [4, 0, 0, 0] (zs 4) (fB 4 n) _ 4 rfl (by rw [zs_length, fB_length])
theorem ly3_of (n : Int) (dn P : Nat) : splice (ly2 n P) 8 (fB 4 dn) = ly3 n dn P := by
 have := splice_mid ([4, 0, 0, 0] ++ fB 4 n) (zs 4) (fB 4 dn) (zs (P - 12)) 8 (by simp [fB_length]) (by rw [zs_length, fB_length])
 simpa [ly2, ly3, List.append_assoc] using this
theorem ly4_of (n : Int) (d : List Int) (P : Nat) (h : d.length + 16 ≤ P) : splice (ly3 n d.length P) 12 d = ly4 n d P := by
 have := splice_mid ([4, 0, 0, 0] ++ (fB 4 n ++ fB 4 d.length)) (zs d.length) d (zs (P - 12 - d.length)) 12 (by simp [fB_length]) (by rw [zs_length])
 rw [← zs_add, show d.length + (P - 12 - d.length) = P - 12 by omega] at this
 simpa [ly3, ly4, List.append_assoc] using this
theorem ly_len1 (P : Nat) (h : 512 ≤ P) : (ly1 P).length = P := by simp [ly1, zs_length]; omega
theorem ly_len2 (n : Int) (P : Nat) (h : 512 ≤ P) : (ly2 n P).length = P := by simp [ly2, zs_length, fB_length]; omega
theorem ly_len3 (n : Int) (dn P : Nat) (h : 512 ≤ P) : (ly3 n dn P).length = P := by simp [ly3, zs_length, fB_length]; omega
theorem ly_len4 (n : Int) (d : List Int) (P : Nat) (h : d.length + 16 ≤ P) : (ly4 n d P).length = P := by simp [ly4, zs_length, fB_length]; omega
theorem ly4_split (n : Int) (d : List Int) (P : Nat) (h : d.length + 16 ≤ P) : ly4 n d P = spH n d P ++ zs 4 := by
 unfold ly4 spH
 rw [show P - 12 - d.length = (P - 16 - d.length) + 4 by omega, zs_add]
 simp only [List.append_assoc]
theorem ly4_body (n : Int) (d : List Int) (P : Nat) (h : d.length + 16 ≤ P) : (ly4 n d P).take (P - 4) = spH n d P := by
 rw [ly4_split n d P h]
 exact List.take_left' (spH_length n d P h)
theorem ly4_page (n : Int) (d : List Int) (P : Nat) (h : d.length + 16 ≤ P) : splice (ly4 n d P) (P - 4) (fB 4 (sumN [spH n d P])) = spB n d P := by
 unfold splice
 rw [ly4_body n d P h, fB_length, List.drop_eq_nil_of_le (by rw [ly_len4 n d P h]; omega), List.append_nil]
 rfl
def EncS (n : Int) (d : List Int) (p : Int) (w : World) (e : Ending) (w' : World) : Prop :=
 Below w.heap.size w w' ∧ ((spE n d p = 0 ∧ ∃ g, e = .returned (.tuple #[.slice (some ⟨g, 0, none⟩) p.toNat p.toNat, .int .i64 0]) ∧ w.heap.size ≤ g ∧ Bk w' g (spB n d p.toNat)) ∨
  (spE n d p ≠ 0 ∧ e = .returned (.tuple #[.slice none 0 0, .int .i64 (spE n d p)])))
theorem made_bk9 {w w1 : World} {P : Nat} (hown1 : w1.ownsRow w.heap.size 5 1 (.slice (some ⟨w.heap.size, 0, none⟩) P P) P (madeCells #[.int .u8 0] P).toList) : Bk w1 w.heap.size (zs P) := by
 rcases hown1.2 with ⟨h, _⟩ | ⟨g, c, cur, h, _, hh, _, _, hs, hx⟩
 ·cases h
 ·cases h
  unfold Bk
  rw [hh]
  congr 2
  apply Array.toList_inj.1
  rw [toList_madeCells_one] at hx
  simp only [Nat.mul_one] at hs hx
  rw [List.take_of_length_le (by simp [hs])] at hx
  simpa [By, zs] using hx
end Go.Proofs.YtoejadhlkamcjaaDoor
