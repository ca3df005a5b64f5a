import Derived.Test.YtbkhjeacmmbabaaGreatDoorJ04
namespace Go.Proofs.YtbkhjeacmmbabaaGreatDoor
set_option maxRecDepth 100000
set_option maxHeartbeats 1000000
theorem zcj (n : Int) : 1 ≤ (uB n).length := (zba n).2
def pU (l : List Int) : Option (Int × List Int) := if (rU 0 l 0 0).2.2 = 0 then some ((rU 0 l 0 0).1, l.drop (rU 0 l 0 0).2.1.toNat) else none
theorem pU_mid (n : Int) (r : List Int) (h0 : 0 ≤ n) (h : n < 18446744073709551616) : pU (uB n ++ r) = some (n, r) := by
 unfold pU
 rw [rU_uB 0 n r h0 h]
 simp
theorem pU_inv {l r : List Int} {n : Int} (hw : Wf l) (h : pU l = some (n, r)) : l = uB n ++ r ∧ 0 ≤ n ∧ n < 18446744073709551616 ∧ Wf r := by
 unfold pU at h
 split at h
 ·next he =>
  simp only [Option.some.injEq, Prod.mk.injEq] at h
  obtain ⟨h1, h2⟩ := h
  rcases rU_spec l 0 0 0 hw zq zq zq with ⟨g, _⟩ | ⟨_, k, M, g1, g2, g3, g4, g5, g6, g7, _⟩
  ·exact absurd he g
  ·have e1 : n = M := by rw [← h1, g5]; simp
   have e2 : (rU 0 l 0 0).2.1.toNat = k := by rw [g3]; omega
   rw [e2] at h2
   subst e1
   refine ⟨?_, g4, by rw [← h1]; exact g6, by rw [← h2]; exact hw.drop _⟩
   rw [← h2, ← g7, List.take_append_drop]
 ·cases h
def pT (l : List Int) : Option (List Int × List Int) :=
 match pU l with
 | none => none
 | some (n, r) => if (r.length : Int) < n then none else some (r.take n.toNat, r.drop n.toNat)
def pC (l : List Int) : Option (Cl × List Int) :=
 match pNum 1 l with
 | none => none
 | some (k, r) =>
  match pT r with
  | none => none
  | some (key, r) =>
   if k = 1 then
    match pT r with
    | none => none
    | some (val, r) => some (⟨key, k, val, 0, 0⟩, r)
   else
    match pU r with
    | none => none
    | some (p, r) =>
     match pU r with
     | none => none
     | some (c, r) => some (⟨key, k, [], RowKit.wrap64 p, RowKit.wrap64 c⟩, r)
def qB (m : Nat) (c : Cl) : List Int := [c.kd % 256] ++ (uB ((c.key.length - m : Nat) : Int) ++ (c.key.drop m ++ (if c.kd = 1 then uB c.val.length ++ c.val else uB (c.pg % 18446744073709551616) ++ uB (c.ct % 18446744073709551616))))
def tL (n : Nat) : Nat := (uB (n : Int)).length + n
def qtk (m : Nat) (c : Cl) : Nat := 3 + tL (c.key.length - m) + (if c.kd = 1 then tL c.val.length else (uB (c.pg % 18446744073709551616)).length + (uB (c.ct % 18446744073709551616)).length)
theorem qB_length (m : Nat) (c : Cl) : (qB m c).length + 2 = qtk m c := by
 unfold qB qtk tL
 split <;> simp only [zG, List.length_cons, List.length_nil, zK] <;> omega
theorem qB_wf {m : Nat} {c : Cl} (h : c.Wf) (h1 : c.key.length < 18446744073709551616) (h2 : c.val.length < 18446744073709551616) : Wf (qB m c) := by
 unfold qB
 refine Wf.append (Wf.cons zq Wf.nil) (Wf.append (uB_wf zq zq) (Wf.append (h.1.drop m) ?_))
 split
 ·exact Wf.append (uB_wf zq zq) h.2
 ·exact Wf.append (uB_wf zq zq) (uB_wf zq zq)
def Cl.cut (c : Cl) (m : Nat) : Cl := ⟨c.key.drop m, c.kd, c.val, c.pg, c.ct⟩
def Cl.pre (c : Cl) (P : List Int) : Cl := ⟨P ++ c.key, c.kd, c.val, c.pg, c.ct⟩
theorem Cl.cut_pre (c : Cl) (m : Nat) (P : List Int) (h : c.key.take m = P) : (c.cut m).pre P = c := by
 subst h
 obtain ⟨key, kd, val, pg, ct⟩ := c
 simp [Cl.cut, Cl.pre, List.take_append_drop]
theorem pT_mid (t r : List Int) (h : t.length < 18446744073709551616) : pT (uB t.length ++ (t ++ r)) = some (t, r) := by
 unfold pT
 rw [pU_mid _ _ zq zq]
 simp only
 rw [if_neg (by rw [zG]; omega), Int.toNat_natCast, List.take_left, List.drop_left]
theorem pC_mid (m : Nat) (c : Cl) (r : List Int) (h : c.fit) : pC (qB m c ++ r) = some (c.cut m, r) := by
 obtain ⟨key, kd, val, pg, ct⟩ := c
 obtain ⟨h1, h2, h3, h4, h5, h6, h7⟩ := h
 simp only at h1 h2 h3 h4 h5 h6 h7
 unfold qB pC Cl.cut
 simp only
 rw [zM, show ([kd % 256] : List Int) = fB 1 kd from by simp [fB], pNum_mid 1 kd _ h1.1 zq]
 simp only
 rw [zM, zM, show key.length - m = (key.drop m).length from by rw [zK], pT_mid _ _ (by rw [zK]; omega)]
 simp only
 by_cases e : kd = 1
 ·rw [if_pos e, if_pos e, zM, pT_mid _ _ zq]
  simp only
  obtain ⟨rfl, rfl⟩ := h6 e
  rfl
 ·have e4 : pg % 18446744073709551616 = pg := zq
  have e5 : ct % 18446744073709551616 = ct := zq
  rw [if_neg e, if_neg e, zM, e4, e5, pU_mid pg _ h4.1 zq]
  simp only
  rw [pU_mid ct _ h5.1 zq]
  simp only
  have e6 : RowKit.wrap64 pg = pg := by unfold RowKit.wrap64; omega
  have e7 : RowKit.wrap64 ct = ct := by unfold RowKit.wrap64; omega
  rw [h7 e, e6, e7]
theorem pT_inv {l r t : List Int} (hw : Wf l) (h : pT l = some (t, r)) : l = uB t.length ++ (t ++ r) ∧ Wf t ∧ Wf r := by
 unfold pT at h
 split at h
 ·cases h
 ·next n r' e =>
  obtain ⟨h1, h2, h3, h4⟩ := pU_inv hw e
  split at h
  ·cases h
  ·next hl =>
   simp only [Option.some.injEq, Prod.mk.injEq] at h
   obtain ⟨rfl, rfl⟩ := h
   have ht : (r'.take n.toNat).length = n.toNat := by rw [zJ]; omega
   refine ⟨?_, h4.take _, h4.drop _⟩
   rw [ht, Int.toNat_of_nonneg h2, List.take_append_drop]
   exact h1
theorem pC_inv {l r : List Int} {c : Cl} (hw : Wf l) (h : pC l = some (c, r)) : l = qB 0 c ++ r ∧ c.Wf ∧ Wf r ∧ (0 ≤ c.kd ∧ c.kd ≤ 255) := by
 unfold pC at h
 split at h
 ·cases h
 ·next k r1 e1 =>
  obtain ⟨h1, h2, h3, h4⟩ := pNum_inv hw e1
  split at h
  ·cases h
  ·next key r2 e2 =>
   obtain ⟨g1, g3, g4⟩ := pT_inv h4 e2
   split at h
   ·next hk =>
    split at h
    ·cases h
    ·next val r3 e3 =>
     obtain ⟨f1, f3, f4⟩ := pT_inv g4 e3
     simp only [Option.some.injEq, Prod.mk.injEq] at h
     obtain ⟨rfl, rfl⟩ := h
     refine ⟨?_, ⟨g3, f3⟩, f4, by simp only; omega⟩
     rw [h1, g1, f1]
     simp [qB, hk, fB]
   ·next hk =>
    split at h
    ·cases h
    ·next p r3 e3 =>
     obtain ⟨f1, f2, f3, f4⟩ := pU_inv g4 e3
     split at h
     ·cases h
     ·next ct r4 e4 =>
      obtain ⟨d1, d2, d3, d4⟩ := pU_inv f4 e4
      simp only [Option.some.injEq, Prod.mk.injEq] at h
      obtain ⟨rfl, rfl⟩ := h
      have e5 : RowKit.wrap64 p % 18446744073709551616 = p := by unfold RowKit.wrap64; omega
      have e6 : RowKit.wrap64 ct % 18446744073709551616 = ct := by unfold RowKit.wrap64; omega
      refine ⟨?_, ⟨g3, Wf.nil⟩, d4, by simp only; omega⟩
      rw [h1, g1, f1, d1]
      simp [qB, hk, fB, e5, e6]
end Go.Proofs.YtbkhjeacmmbabaaGreatDoor
namespace Go.Proofs.YtbkhjeacmmbabaaGreatDoor
set_option maxRecDepth 100000
set_option maxHeartbeats 1000000
open Go.RowKit
theorem readUint_end (ao : Option Addr) (n cap : Nat) (w : World) (hn : n ≤ 140737488355328) :
  Calls Tryz.prog 173 #[.slice ao n cap, .int .i64 n] w fun e w' => e = .returned (.tuple #[.int .u64 0, .int .i64 0, .int .i64 10]) ∧ w' = w := by
 go_enter Tryz.func173, Tryz.ntmps173
 go_wp2_with (go_at_call 176; refine zad (zdn _ _ _ _ _ zq zq) ?_)
 all_goals
  refine wp_loop_rounds 1 ?_
  rw [rounds_succ]
  go_wp2
  go_ret3
  exact ⟨rfl, rfl⟩
theorem readUint_in (b off n cap : Nat) (l : List Int) (p : Nat) (w : World) (hs : Sl w (some ⟨b, off, none⟩) n cap l) (hp : p < n) :
  Calls Tryz.prog 173 #[.slice (some ⟨b, off, none⟩) n cap, .int .i64 p] w fun e w' => e = .returned (.tuple #[.int .u64 (rU p (l.drop p) 0 0).1, .int .i64 (rU p (l.drop p) 0 0).2.1, .int .i64 (rU p (l.drop p) 0 0).2.2]) ∧ w' = w := by
 obtain ⟨O, P, N, I, Q, J⟩ := hs
 rcases J with h | ⟨b', off', he, hb, hc⟩
 ·omega
 cases he
 go_enter Tryz.func173, Tryz.ntmps173
 go_wp2_with (go_at_call 176; refine zad (zdn _ _ _ _ _ zq zq) ?_)
 go_loop [7, 18] (fun v i => ∃ (k : Nat) (m : Int), k ≤ n - p ∧ k ≤ 9 ∧ i = .int .i64 k ∧ v = .int .u64 m ∧ 0 ≤ m ∧ m < 128 ^ k ∧ rU p (l.drop (p + k)) k m = rU p (l.drop p) 0 0) (fun _ i => (n - p) - (intOf i).toNat)
 case atStart => exact ⟨0, 0, zq, zq, rfl, rfl, zq, zv, rfl⟩
 case round =>
  obtain ⟨k, m, hk, R, rfl, rfl, D, hm, hR⟩ := hrel
  have HR := zaa hR
  clear hR
  by_cases T : k < n - p
  ·have U : w.cell? ⟨b, off + p + k, none⟩ = some (.int .u8 (l.getD (p + k) 0)) := by
    rw [Nat.add_assoc, hc (p + k) zq]
   have E := I.getD (p + k)
   have HD := zaa (zbu l (p + k) zq)
   generalize l.getD (p + k) 0 = c at *
   by_cases h9 : k = 9 ∧ 1 < c
   ·obtain ⟨rfl, K⟩ := h9
    have e : rU p (l.drop p) 0 0 = (0, 0, 12) := by rw [← HR.out, HD.out, rU, if_pos ⟨rfl, K⟩]
    have HE := zaa e
    clear e
    go_wp2
    go_ret3
    exact ⟨by rw [HE.out]; rfl, rfl⟩
   ·by_cases F : 128 ≤ c
    ·have H := andNot_hi c F E.2
     have h9' : k < 9 := zq
     clear h9
     have A := or_up m (c - 128) k D hm zq zq (.inl h9')
     have HU := zaa A.1
     have HL := zaa A.2.1
     have V : 0 ≤ (c - 128) * 128 ^ k := Int.mul_nonneg zq (Int.le_of_lt (Int.pow_pos zq))
     clear A
     go_wp2
     go_round
     case rel =>
      refine ⟨k + 1, m + (c - 128) * 128 ^ k, zq, zq, by go_num, by rw [HU.out], zq, HL.out, ?_⟩
      rw [← HR.out, HD.out, rU, if_neg zq, if_pos F, Nat.add_assoc]
     case measure => simp [intOf]; omega
    ·have H := andNot_lo c E.1 zq
     have A := or_up m c k D hm zq zq zq
     have HU := zaa A.1
     clear A
     by_cases h0 : c = 0 ∧ 0 < k
     ·obtain ⟨rfl, G⟩ := h0
      have e : rU p (l.drop p) 0 0 = (0, 0, 11) := by rw [← HR.out, HD.out, rU, if_neg zq, if_neg zq, if_pos ⟨rfl, G⟩]
      have HE := zaa e
      clear e HU
      by_cases B : k = 9
      ·subst B
       go_wp2
       go_ret3
       exact ⟨by rw [HE.out]; rfl, rfl⟩
      ·have L : ((k : Int) == 9) = false := by simp; omega
       go_wp2
       go_ret3
       exact ⟨by rw [HE.out]; rfl, rfl⟩
     ·have e : rU p (l.drop p) 0 0 = (m + c * 128 ^ k, (p : Int) + k + 1, 0) := by rw [← HR.out, HD.out, rU, if_neg zq, if_neg zq, if_neg h0]
      have HE := zaa e
      clear e
      by_cases B : k = 9
      ·subst B
       obtain rfl : c = 1 := zq
       have C := HU.out
       rw [show IntKind.u64.wrap (1 * 2 ^ (7 * 9)) = 9223372036854775808 by rw [IntKind.wrap_u64]; decide] at C
       have HO := zaa C
       clear C HU
       go_wp2
       go_ret3
       exact ⟨by rw [HE.out, ← HO.out]; rfl, rfl⟩
      ·have L : ((k : Int) == 9) = false := by simp; omega
       by_cases M : c = 0
       ·subst M
        have G : k ≤ 0 := zq
        have ho : bits .or .u64 m 0 = m := by
         have := HU.out
         simp only [Int.zero_mul, Int.add_zero] at this
         rw [show IntKind.u64.wrap 0 = 0 by decide] at this
         exact this
        have hE := HE.out
        simp only [Int.zero_mul, Int.add_zero] at hE
        have HE' := zaa hE
        clear hE HE HU
        go_wp2
        go_ret3
        exact ⟨by rw [HE'.out]; rfl, rfl⟩
       ·have W : (c == 0) = false := by simp; omega
        go_wp2
        go_ret3
        exact ⟨by rw [HE.out, ← HU.out]; rfl, rfl⟩
  ·have e : rU p (l.drop p) 0 0 = (0, 0, 10) := by rw [← HR.out, List.drop_eq_nil_of_le zq, rU]
   have HE := zaa e
   clear e
   go_wp2
   go_ret3
   exact ⟨by rw [HE.out]; rfl, rfl⟩
theorem readUint_any (ao : Option Addr) (n cap : Nat) (l : List Int) (p' : Int) (w : World) (hs : Sl w ao n cap l) (h0 : 0 ≤ p') (hp : p' ≤ n) :
  Calls Tryz.prog 173 #[.slice ao n cap, .int .i64 p'] w fun e w' => e = .returned (.tuple #[.int .u64 (rU p' (l.drop p'.toNat) 0 0).1, .int .i64 (rU p' (l.drop p'.toNat) 0 0).2.1, .int .i64 (rU p' (l.drop p'.toNat) 0 0).2.2]) ∧ w' = w := by
 obtain ⟨p, rfl⟩ := Int.eq_ofNat_of_zero_le h0
 rw [Int.toNat_natCast]
 by_cases h : p = n
 ·subst h
  rw [List.drop_eq_nil_of_le (by rw [hs.hlen]; exact Lr)]
  exact readUint_end ao p cap w hs.hroom
 ·rcases hs.hat with h' | ⟨b, off, rfl, hb, hc⟩
  ·omega
  ·exact readUint_in b off n cap l p w hs zq
def Rdq (w : World) (r : Nat) (ao : Option Addr) (n cap at_ : Nat) (en : Bool) : Prop := w.heap[r]? = some (.cells #[.slice ao n cap, .int .i64 (at_ : Int), .bool en] 159 (0, 0))
theorem Rdq.c0 {w : World} {r : Nat} {ao : Option Addr} {n cap at_ : Nat} {en : Bool} (h : Rdq w r ao n cap at_ en) : w.cell? ⟨r, 0, none⟩ = some (.slice ao n cap) := by rw [cell_of_row _ _ 0 _ _ _ h]; rfl
theorem Rdq.c1 {w : World} {r : Nat} {ao : Option Addr} {n cap at_ : Nat} {en : Bool} (h : Rdq w r ao n cap at_ en) : w.cell? ⟨r, 1, none⟩ = some (.int .i64 (at_ : Int)) := by rw [cell_of_row _ _ 1 _ _ _ h]; rfl
theorem Rdq.c2 {w : World} {r : Nat} {ao : Option Addr} {n cap at_ : Nat} {en : Bool} (h : Rdq w r ao n cap at_ en) : w.cell? ⟨r, 2, none⟩ = some (.bool en) := by rw [cell_of_row _ _ 2 _ _ _ h]; rfl
theorem Rdq.free {w : World} {r : Nat} {ao : Option Addr} {n cap at_ : Nat} {en : Bool} (h : Rdq w r ao n cap at_ en) (k : Nat) : w.frozen? ⟨r, k, none⟩ = false := by
 unfold Rdq at h
 simp [World.frozen?, h]
theorem Rdq.drewN {w : World} {r : Nat} {ao : Option Addr} {n cap at_ : Nat} {en : Bool} (h : Rdq w r ao n cap at_ en) (q : Nat) : Rdq (w.drewN q) r ao n cap at_ en := h
theorem Rdq.lt {w : World} {r : Nat} {ao : Option Addr} {n cap at_ : Nat} {en : Bool} (h : Rdq w r ao n cap at_ en) : r < w.heap.size := zaf h
theorem Rdq.set1 {w : World} {r : Nat} {ao : Option Addr} {n cap at_ : Nat} {en : Bool} (h : Rdq w r ao n cap at_ en) (x : Nat) : Rdq (w.setCell ⟨r, 1, none⟩ (.int .i64 (x : Int))) r ao n cap x en := by
 unfold Rdq at *
 have := zau (w := w) (a := r) (cs := [.slice ao n cap, .int .i64 (at_ : Int), .bool en]) (i := 1) (u := .int .i64 (x : Int)) h
 simpa using this
theorem Rdq.set2 {w : World} {r : Nat} {ao : Option Addr} {n cap at_ : Nat} {en : Bool} (h : Rdq w r ao n cap at_ en) (x : Bool) : Rdq (w.setCell ⟨r, 2, none⟩ (.bool x)) r ao n cap at_ x := by
 unfold Rdq at *
 have := zau (w := w) (a := r) (cs := [.slice ao n cap, .int .i64 (at_ : Int), .bool en]) (i := 2) (u := .bool x) h
 simpa using this
theorem Sl.apartq {w : World} {ao : Option Addr} {n cap : Nat} {l : List Int} (h : Sl w ao n cap l) {r : Nat} {a : Option Addr} {b c d : Nat} {en : Bool} (hr : Rdq w r a b c d en) : n = 0 ∨ ∀ p, ao = some p → p.block ≠ r := by
 rcases h.hat with h0 | ⟨g, off, rfl, hg, hc⟩
 ·exact .inl h0
 ·rcases Nat.eq_zero_or_pos n with h0 | h0
  ·exact .inl h0
  ·right
   rintro p hp rfl
   injection hp with hp
   subst hp
   have h1 := hc 0 h0
   rw [cell_of_row _ _ _ _ _ _ hr] at h1
   rcases Nat.lt_or_ge (off + 0) 3 with h3 | h3
   ·have h4 : off + 0 = 0 ∨ off + 0 = 1 ∨ off + 0 = 2 := zq
    rcases h4 with h4 | h4 | h4 <;> (rw [h4] at h1; simp at h1)
   ·rw [Array.getElem?_eq_none (by simpa using h3)] at h1
    cases h1
def UNumTo (l : List Int) (w : World) (r : Nat) (ao : Option Addr) (n cap at_ : Nat) (en : Bool) (e : Ending) (w' : World) : Prop :=
 ∃ (v : Int) (p : Nat) (en' : Bool), e = .returned (.int .u64 v) ∧ Hid (Rdq w' r ao n cap p en') ∧ Hid (Cf (· = r) w w') ∧ Hid ((0 ≤ v ∧ v < 18446744073709551616) ∧ p ≤ n ∧ ((pU (l.drop at_) = some (v, l.drop p) ∧ en' = en) ∨ (pU (l.drop at_) = none ∧ en' = true ∧ v = 0 ∧ p = at_)))
theorem rU_shift (l : List Int) : ∀ (p : Int) (i : Nat) (n : Int), (rU p l i n).1 = (rU 0 l i n).1 ∧ (rU p l i n).2.2 = (rU 0 l i n).2.2 ∧ ((rU 0 l i n).2.2 = 0 → (rU p l i n).2.1 = p + (rU 0 l i n).2.1) := by
 induction l with
 | nil => intro p i n; simp [rU]
 | cons c r ih =>
  intro p i n
  rw [rU, rU]
  split
  ·simp
  ·split
   ·exact ih p (i + 1) _
   ·split
    ·simp
    ·refine ⟨rfl, rfl, fun _ => ?_⟩
     simp only
     omega
theorem unumber_any (l : List Int) (w : World) (r : Nat) (ao : Option Addr) (n cap at_ : Nat) (en : Bool) (hr : Rdq w r ao n cap at_ en) (hs : Sl w ao n cap l) (ha : at_ ≤ n) :
  Calls Tryz.prog 166 #[.pointer (some ⟨r, 0, none⟩)] w fun e w' => UNumTo l w r ao n cap at_ en e w' := by
 have c0 := hr.c0
 have c1 := hr.c1
 have c2 := hr.c2
 have f1 := hr.free 1
 have f2 := hr.free 2
 have hn := hs.hroom
 have HR := zaa hr
 have B := hs.hlen
 have HF : Hid (∀ q, Calls Tryz.prog 173 #[.slice ao n cap, .int .i64 (at_ : Int)] (w.drewN q) fun e w' => e = .returned (.tuple #[.int .u64 (rU (at_ : Int) (l.drop at_) 0 0).1, .int .i64 (rU (at_ : Int) (l.drop at_) 0 0).2.1, .int .i64 (rU (at_ : Int) (l.drop at_) 0 0).2.2]) ∧ w' = w.drewN q) :=
  zaa fun q => by simpa using readUint_any ao n cap l (at_ : Int) (w.drewN q) (hs.drewN q) zq zq
 obtain ⟨s1, s2, s3⟩ := rU_shift (l.drop at_) (at_ : Int) 0 0
 have A := rU_spec (l.drop at_) 0 0 0 (hs.wf.drop at_) zq zq zq
 rw [s1, s2] at HF
 by_cases h : (rU 0 (l.drop at_) 0 0).2.2 = 0
 ·obtain ⟨k, M, k1, k2, k3, k4, k5, k6⟩ : ∃ (k : Nat) (M : Int), 1 ≤ k ∧ k ≤ (l.drop at_).length ∧ (rU 0 (l.drop at_) 0 0).2.1 = k ∧ 0 ≤ M ∧ (rU 0 (l.drop at_) 0 0).1 = M ∧ (rU 0 (l.drop at_) 0 0).1 < 18446744073709551616 := by
   rcases A with ⟨g, _⟩ | ⟨_, k, M, g1, g2, g3, g4, g5, g6, _, _⟩
   ·exact absurd h g
   ·exact ⟨k, M, g1, g2, by rw [g3]; simp, g4, by rw [g5]; simp, g6⟩
  have e3 := s3 h
  rw [k3] at e3
  rw [e3, h, k5] at HF
  rw [k5] at k6
  have HP : Hid (pU (l.drop at_) = some (M, l.drop (at_ + k))) := zaa (by
   unfold pU
   rw [if_pos h, k5, k3, Int.toNat_natCast, List.drop_drop])
  rw [zK, B] at k2
  have bM : M ≤ 18446744073709551615 := zq
  have HS : ∀ q, Hid (Rdq ((w.drewN q).setCell ⟨r, 1, none⟩ (.int .i64 ((at_ + k : Nat) : Int))) r ao n cap (at_ + k) en) := fun q => zaa (Rdq.set1 (HR.out.drewN q) (at_ + k))
  clear hs s1 s2 s3 A h k3 k5 e3
  go_enter Tryz.func166, Tryz.ntmps166
  go_wp2_with fail
  go_quiet (first | (go_at_call 173; exact Calls.quiet_of_same (HF.out _)))
  go_wp2
  go_ret
  exact ⟨M, at_ + k, en, rfl, by simpa using HS _, zaa ((Cf.drew _ _ _).go (Cf.set _ _ _ _)), zaa ⟨⟨k4, k6⟩, zq, .inl ⟨HP.out, rfl⟩⟩⟩
 ·have HP : Hid (pU (l.drop at_) = none) := zaa (by unfold pU; rw [if_neg h])
  have hz : (rU 0 (l.drop at_) 0 0).1 = 0 := by
   rcases A with ⟨_, g, _⟩ | ⟨g, _⟩
   ·exact g
   ·exact absurd g h
  have d1 : ((rU 0 (l.drop at_) 0 0).2.2 == 0) = false := by simpa using h
  generalize (rU 0 (l.drop at_) 0 0).2.2 = er at *
  generalize (rU (at_ : Int) (l.drop at_) 0 0).2.1 = pe at *
  rw [hz] at HF
  clear hs s1 s2 s3 A hz
  go_enter Tryz.func166, Tryz.ntmps166
  go_wp2_with fail
  go_quiet (first | (go_at_call 173; exact Calls.quiet_of_same (HF.out _)))
  go_wp2
  go_ret
  exact ⟨0, at_, true, rfl, zaa (Rdq.set2 (HR.out.drewN _) true), zaa ((Cf.drew _ _ _).go (Cf.set _ _ _ _)), zaa ⟨⟨zq, zq⟩, ha, .inr ⟨HP.out, rfl, rfl, rfl⟩⟩⟩
def UTextTo (l : List Int) (w : World) (r : Nat) (ao : Option Addr) (n cap at_ : Nat) (en : Bool) (e : Ending) (w' : World) : Prop :=
 ∃ (ko : Option Addr) (kn kc p : Nat) (en' : Bool) (t : List Int), e = .returned (.slice ko kn kc) ∧ Hid (Rdq w' r ao n cap p en') ∧ Hid (Cf (· = r) w w') ∧ Hid (Sl w' ko kn kc t ∧ (∀ q, ko = some q → ∀ o, ao = some o → q.block = o.block) ∧ (p ≤ n ∧ kn ≤ n) ∧ ((pT (l.drop at_) = some (t, l.drop p) ∧ en' = en) ∨ (pT (l.drop at_) = none ∧ en' = true)))
theorem utext_any (l : List Int) (w : World) (r g off n cap at_ : Nat) (en : Bool) (hr : Rdq w r (some ⟨g, off, none⟩) n cap at_ en) (hs : Sl w (some ⟨g, off, none⟩) n cap l) (ha : at_ ≤ n) :
  Calls Tryz.prog 165 #[.pointer (some ⟨r, 0, none⟩)] w fun e w' => UTextTo l w r (some ⟨g, off, none⟩) n cap at_ en e w' := by
 have HN := zaa (unumber_any l w r (some ⟨g, off, none⟩) n cap at_ en hr hs ha)
 have HS := zaa hs
 have J := zaa (hs.apartq hr)
 have hn := hs.hroom
 have Q := hs.hcap
 clear hr hs
 go_enter Tryz.func165, Tryz.ntmps165
 go_wp2_with (go_at_call 166; refine HN.out.mono ?_; rintro e w1 ⟨v, p, en', rfl, HR, HC, HV⟩; refine Hid.out ?_)
 apply zaa
 clear HN
 obtain ⟨⟨K, M⟩, hp, E⟩ := HV.out
 clear HV
 have A := zaa E
 clear E
 obtain ⟨m, rfl⟩ := Int.eq_ofNat_of_zero_le K
 have hm : (m : Int) < 18446744073709551616 := zq
 clear K M
 have N : Hid (Sl w1 (some ⟨g, off, none⟩) n cap l) := zaa (HS.out.cf HC.out J.out)
 have c0 := HR.out.c0
 have c1 := HR.out.c1
 have c2 := HR.out.c2
 have f1 := HR.out.free 1
 have f2 := HR.out.free 2
 have H := zaa HS.out.hlen
 by_cases h : (n : Int) - (p : Int) < (m : Int)
 ·have d1 : decide ((n : Int) - (p : Int) < (m : Int)) = true := decide_eq_true h
  have HQ : Hid (pT (l.drop at_) = none) := by
   rcases A.out with ⟨h1, h2⟩ | ⟨h1, h2, h3, h4⟩
   ·refine zaa ?_
    unfold pT
    rw [h1]
    simp only
    rw [if_pos (by rw [zK, H.out]; omega)]
   ·omega
  go_wp2_with fail
  go_quiet (fail)
  go_wp2
  go_ret
  exact ⟨none, 0, 0, p, true, [], rfl, zaa (Rdq.set2 (HR.out.drewN _) true), zaa ((HC.out.go (Cf.drew _ _ _)).go (Cf.set _ _ _ _)), zaa ⟨Sl.nil_any _ _ _ (fun _ => rfl), (by intro q hq; cases hq), ⟨hp, Nat.zero_le _⟩, .inr ⟨HQ.out, rfl⟩⟩⟩
 ·have d1 : decide ((n : Int) - (p : Int) < (m : Int)) = false := decide_eq_false h
  have C : Hid (∃ tx, tx = (l.drop p).take m ∧ ((pT (l.drop at_) = some (tx, l.drop (p + m)) ∧ en' = en) ∨ (pT (l.drop at_) = none ∧ en' = true))) := by
   refine zaa ⟨(l.drop p).take m, rfl, ?_⟩
   rcases A.out with ⟨h1, h2⟩ | ⟨h1, h2, h3, h4⟩
   ·left
    refine ⟨?_, h2⟩
    unfold pT
    rw [h1]
    simp only
    rw [if_neg (by rw [zK, H.out]; omega), Int.toNat_natCast, List.drop_drop]
   ·right
    refine ⟨?_, h2⟩
    unfold pT
    rw [h1]
  have I : Hid (m = 0 ∨ ∀ q : Addr, some (⟨g, off + p, none⟩ : Addr) = some q → ¬ q.block = r) := by
   refine zaa ?_
   rcases J.out with h0 | h0
   ·exact .inl zq
   ·exact .inr fun q hq => by injection hq with hq; subst hq; exact h0 ⟨g, off, none⟩ rfl
  by_cases O : m = 0
  ·subst O
   have p2 : p ≤ cap := zq
   have p3 : (p : Int) ≤ (cap : Int) := zq
   have B : ∀ q, Hid (Rdq ((w1.drewN q).setCell ⟨r, 1, none⟩ (.int .i64 (p : Int))) r (some ⟨g, off, none⟩) n cap p en') := fun q => zaa (Rdq.set1 (HR.out.drewN q) p)
   have x0 := fun q => (B q).out.c0
   have x1 := fun q => (B q).out.c1
   have F : Hid (∀ q q' : Nat, Cf (· = r) w (((w1.drewN q).setCell ⟨r, 1, none⟩ (.int .i64 (p : Int))).drewN q')) := zaa fun q q' => ((HC.out.go (Cf.drew _ _ _)).go (Cf.set _ _ _ _)).go (Cf.drew _ _ _)
   clear h I A
   go_wp2_with fail
   go_quiet (fail)
   go_wp2_with fail
   go_quiet (fail)
   go_wp2
   go_ret
   obtain ⟨tx, D, G⟩ := C.out
   rw [List.take_zero] at D
   subst D
   exact ⟨_, _, _, p, en', [], rfl, zaa ((B _).out.drewN _), zaa (F.out _ _), zaa ⟨Sl.nil_any _ _ _ (by intro h; cases h), (fun q hq o ho => by injection hq with hq; injection ho with ho; subst hq ho; rfl), ⟨hp, Nat.zero_le _⟩, G⟩⟩
  ·obtain ⟨t, ht⟩ : ∃ t, p + m = t := ⟨_, rfl⟩
   have R : (p : Int) + (m : Int) = (t : Int) := zq
   have t1 : p ≤ t := zq
   have t2 : t ≤ n := zq
   have t3 : t ≤ cap := zq
   have t4 : (p : Int) ≤ (t : Int) := zq
   have t5 : (t : Int) ≤ (cap : Int) := zq
   have t6 : t - p = m := zq
   have t7 : ¬ t = p := zq
   have B : ∀ q, Hid (Rdq ((w1.drewN q).setCell ⟨r, 1, none⟩ (.int .i64 (t : Int))) r (some ⟨g, off, none⟩) n cap t en') := fun q => zaa (Rdq.set1 (HR.out.drewN q) t)
   have x0 := fun q => (B q).out.c0
   have x1 := fun q => (B q).out.c1
   have F : Hid (∀ q q' : Nat, Cf (· = r) w (((w1.drewN q).setCell ⟨r, 1, none⟩ (.int .i64 (t : Int))).drewN q')) := zaa fun q q' => ((HC.out.go (Cf.drew _ _ _)).go (Cf.set _ _ _ _)).go (Cf.drew _ _ _)
   have L : Hid (∀ q q' : Nat, Cf (· = r) w1 (((w1.drewN q).setCell ⟨r, 1, none⟩ (.int .i64 (t : Int))).drewN q')) := zaa fun q q' => ((Cf.drew _ _ _).go (Cf.set _ _ _ _)).go (Cf.drew _ _ _)
   have P := zaa (N.out.piece p m m zq Lr)
   rw [ht] at C
   clear h A ht
   go_wp2_with fail
   go_quiet (fail)
   go_wp2_with fail
   go_quiet (fail)
   go_wp2
   go_ret
   obtain ⟨tx, D, G⟩ := C.out
   subst D
   exact ⟨_, _, _, t, en', _, rfl, zaa ((B _).out.drewN _), zaa (F.out _ _), zaa ⟨P.out.cf (L.out _ _) I.out, (fun q hq o ho => by injection hq with hq; injection ho with ho; subst hq ho; rfl), ⟨t2, zq⟩, G⟩⟩
def KndTo (l : List Int) (w : World) (r : Nat) (ao : Option Addr) (n cap at_ : Nat) (en : Bool) (e : Ending) (w' : World) : Prop :=
 ∃ (v : Int) (p : Nat) (en' : Bool), e = .returned (.int .i64 v) ∧ Hid (Rdq w' r ao n cap p en') ∧ Hid (Cf (· = r) w w') ∧ Hid ((0 ≤ v ∧ v < 256) ∧ p ≤ n ∧ ((pNum 1 (l.drop at_) = some (v, l.drop p) ∧ en' = en) ∨ (pNum 1 (l.drop at_) = none ∧ en' = true ∧ v = 0 ∧ p = at_)))
theorem kind_any (l : List Int) (w : World) (r : Nat) (ao : Option Addr) (n cap at_ : Nat) (en : Bool) (hr : Rdq w r ao n cap at_ en) (hs : Sl w ao n cap l) (ha : at_ ≤ n) :
  Calls Tryz.prog 164 #[.pointer (some ⟨r, 0, none⟩)] w fun e w' => KndTo l w r ao n cap at_ en e w' := by
 have c0 := hr.c0
 have c1 := hr.c1
 have c2 := hr.c2
 have f1 := hr.free 1
 have f2 := hr.free 2
 have hn := hs.hroom
 have HR := zaa hr
 have C := hs.hlen
 by_cases h : 1 ≤ n - at_
 ·have HF : Hid (∀ q, Calls Tryz.prog 172 #[.slice ao n cap, .int .i64 (at_ : Int), .int .i64 1] (w.drewN q) fun e w' => e = .returned (.tuple #[.int .u64 (rdB ((l.drop at_).take 1)), .int .i64 0]) ∧ w' = w.drewN q) :=
   zaa fun q => by simpa using readFixed_ok ao n cap l (at_ : Int) 1 (w.drewN q) (hs.drewN q) zq zq zq zq
  have hp : pNum 1 (l.drop at_) = some (rdB ((l.drop at_).take 1), l.drop (at_ + 1)) := by
   unfold pNum
   rw [if_neg (by rw [zK]; omega), List.drop_drop]
  have hb := zdc ((l.drop at_).take 1) ((hs.wf.drop at_).take 1)
  rw [show ((l.drop at_).take 1).length = 1 from by rw [zJ, zK]; omega] at hb
  have HB := zaa hb
  have A : rdB ((l.drop at_).take 1) < 256 := zq
  generalize rdB ((l.drop at_).take 1) = v at *
  have B := hb.1
  have HP := zaa hp
  clear hp hb hs
  have hw : wrap64 v = v := by simp [wrap64]; omega
  have HS : ∀ q, Hid (Rdq ((w.drewN q).setCell ⟨r, 1, none⟩ (.int .i64 ((at_ + 1 : Nat) : Int))) r ao n cap (at_ + 1) en) := fun q => zaa (Rdq.set1 (HR.out.drewN q) (at_ + 1))
  go_enter Tryz.func164, Tryz.ntmps164
  go_wp2_with fail
  go_quiet (first | (go_at_call 172; exact Calls.quiet_of_same (HF.out _)))
  go_wp2
  go_ret
  exact ⟨v, at_ + 1, en, rfl, by simpa using HS _, zaa ((Cf.drew _ _ _).go (Cf.set _ _ _ _)), zaa ⟨⟨B, A⟩, zq, .inl ⟨HP.out, rfl⟩⟩⟩
 ·have HF : Hid (∀ q, Calls Tryz.prog 172 #[.slice ao n cap, .int .i64 (at_ : Int), .int .i64 1] (w.drewN q) fun e w' => e = .returned (.tuple #[.int .u64 0, .int .i64 10]) ∧ w' = w.drewN q) :=
   zaa fun q => by simpa using zdu ao n cap (at_ : Int) 1 (w.drewN q) zq zq zq zq zq
  have hp : pNum 1 (l.drop at_) = none := by
   unfold pNum
   rw [if_pos (by rw [zK]; omega)]
  have HP := zaa hp
  clear hp hs
  go_enter Tryz.func164, Tryz.ntmps164
  go_wp2_with fail
  go_quiet (first | (go_at_call 172; exact Calls.quiet_of_same (HF.out _)))
  go_wp2
  go_ret
  exact ⟨0, at_, true, rfl, zaa (Rdq.set2 (HR.out.drewN _) true), zaa ((Cf.drew _ _ _).go (Cf.set _ _ _ _)), zaa ⟨⟨zq, zq⟩, ha, .inr ⟨HP.out, rfl, rfl, rfl⟩⟩⟩
end Go.Proofs.YtbkhjeacmmbabaaGreatDoor
