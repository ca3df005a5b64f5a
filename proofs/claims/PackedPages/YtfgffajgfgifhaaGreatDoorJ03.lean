import Derived.Test.YtfgffajgfgifhaaGreatDoorJ02
import Derived.Lib.BytesEntry
import Derived.Laws.Externs
namespace Go.Proofs.YtfgffajgfgifhaaGreatDoor
set_option maxRecDepth 100000
set_option maxHeartbeats 1000000
open Go.RowKit
theorem u8_lt (x y : Int) (hx : 0 ≤ x ∧ x ≤ 255) (hy : 0 ≤ y ∧ y ≤ 255) : UInt8.ofNat x.toNat < UInt8.ofNat y.toNat ↔ x < y := by
 rw [UInt8.lt_iff_toNat_lt, UInt8.toNat_ofNat', UInt8.toNat_ofNat']
 omega
theorem cmp_ord : ∀ (a b : List Int), Wf a → Wf b → Lib.compareBytes (Lib.bytesOf a) (Lib.bytesOf b) = ordL a b
 | [], [], _, _ => rfl
 | [], _ :: _, _, _ => rfl
 | _ :: _, [], _, _ => rfl
 | x :: a, y :: b, ha, hb => by
  have hx := ha x (by simp)
  have hy := hb y (by simp)
  have ih := cmp_ord a b (fun z hz => ha z (by simp [hz])) (fun z hz => hb z (by simp [hz]))
  unfold Lib.bytesOf at ih ⊢
  simp only [List.map_cons, Lib.compareBytes, ordL, u8_lt x y hx hy, u8_lt y x hy hx, ih]
theorem run_bytes {w : World} {ao : Option Addr} {n cap : Nat} {l : List Int} (h : Sl w ao n cap l) : (Extern.Bytes.bytesOf (.slice ao n cap)).run Tryz.prog w = .ok ⟨(Lib.bytesOf l).toArray⟩ w := by
 obtain ⟨hlen, hcap, hroom, hwf, hnil, hat⟩ := h
 have he : (⟨ByteArray.empty.data ++ (Lib.bytesOf l).toArray⟩ : ByteArray) = ⟨(Lib.bytesOf l).toArray⟩ := by
  apply ByteArray.ext
  show (#[] : Array UInt8) ++ (Lib.bytesOf l).toArray = (Lib.bytesOf l).toArray
  simp
 cases ao with
 | none =>
  have : n = 0 := by have := hnil rfl; omega
  obtain rfl : l = [] := List.eq_nil_of_length_eq_zero (by omega)
  rfl
 | some a =>
  have hl := Lib.run_loadBytesX (P := Tryz.prog) w l a .empty (fun j x hj => by
   have hjl : j < l.length := (zH.1 hj).1
   rcases hat with h0 | ⟨b, off, e, hb, hc⟩
   ·omega
   ·injection e with e
    subst e
    rw [Addr.add_lit, hc j (by omega), List.getD_eq_getElem?_getD, hj]
    rfl)
  rw [hlen, he] at hl
  simpa [Extern.Bytes.bytesOf] using hl
theorem run_cmp {w : World} {ao bo : Option Addr} {n m c d : Nat} {la lb : List Int} (ha : Sl w ao n c la) (hb : Sl w bo m d lb) :
  (Extern.BytealgCompare.compare #[.slice ao n c, .slice bo m d]).run Tryz.prog w = .ok (.int .i64 (ordL la lb)) w := by
 change Sem.run Tryz.prog (do pure (goInt (Extern.BytealgCompare.cmp (← Extern.Bytes.bytesOf (.slice ao n c)) (← Extern.Bytes.bytesOf (.slice bo m d))))) w = _
 simp only [Sem.run_bind, run_bytes ha, run_bytes hb, Sem.run_pure, Result.andThen]
 rw [Lib.cmp_eq, show (⟨(Lib.bytesOf la).toArray⟩ : ByteArray).data.toList = Lib.bytesOf la from rfl, show (⟨(Lib.bytesOf lb).toArray⟩ : ByteArray).data.toList = Lib.bytesOf lb from rfl, cmp_ord la lb ha.wf hb.wf]
 rfl
theorem zdl (ao bo : Option Addr) (n m c d : Nat) (la lb : List Int) (w : World) (ha : Sl w ao n c la) (hb : Sl w bo m d lb) :
  Calls Tryz.prog 106 #[.slice ao n c, .slice bo m d] w fun e w' => e = .returned (.int .i64 (ordL la lb)) ∧ w' = w := by
 have hr := run_cmp ha hb
 clear ha hb
 go_enter Tryz.func106, Tryz.ntmps106
 go_wp2
 rw [run_callFunc_extern Tryz.func141 (by kernel_rfl) (by kernel_rfl) (by kernel_rfl) (e := Extern.BytealgCompare.compare) (by kernel_rfl), hr]
 simp only [Result.andThen]
 rw [Oper.upon_value]
 go_wp2
 go_ret
 exact ⟨rfl, rfl⟩
end Go.Proofs.YtfgffajgfgifhaaGreatDoor
namespace Go.Proofs.YtfgffajgfgifhaaGreatDoor
set_option maxRecDepth 100000
set_option maxHeartbeats 1000000
theorem rU_spec (l : List Int) : ∀ (p : Int) (i : Nat) (n : Int), Wf l → 0 ≤ n → n < 128 ^ i → i ≤ 9 →
  ((rU p l i n).2.2 ≠ 0 ∧ (rU p l i n).1 = 0 ∧ (rU p l i n).2.1 = 0) ∨
  ((rU p l i n).2.2 = 0 ∧ ∃ (k : Nat) (M : Int), 1 ≤ k ∧ k ≤ l.length ∧ (rU p l i n).2.1 = p + i + k ∧ 0 ≤ M ∧ (rU p l i n).1 = n + M * 128 ^ i ∧ (rU p l i n).1 < 18446744073709551616 ∧ l.take k = uB M ∧ (0 < i → 0 < M)) := by
 induction l with
 | nil => intro p i n _ _ _ _; left; simp [rU]
 | cons c r ih =>
  intro p i n hw h0 hn hi
  have hc := hw c (by simp)
  have hr : Wf r := fun x hx => hw x (by simp [hx])
  have hpos : (0 : Int) < 128 ^ i := Int.pow_pos (by omega)
  rw [rU]
  by_cases h9 : i = 9 ∧ 1 < c
  ·left; rw [if_pos h9]; simp
  ·rw [if_neg h9]
   by_cases h128 : 128 ≤ c
   ·rw [if_pos h128]
    have hi8 : i < 9 := by omega
    have hup := or_up n (c - 128) i h0 hn (by omega) (by omega) (.inl hi8)
    have hnn : 0 ≤ n + (c - 128) * 128 ^ i := by
     have : 0 ≤ (c - 128) * 128 ^ i := Int.mul_nonneg (by omega) (Int.le_of_lt hpos)
     omega
    rcases ih p (i + 1) (n + (c - 128) * 128 ^ i) hr hnn hup.2.1 (by omega) with h | ⟨he, k, M, hk1, hk2, ht, hM0, hN, hlt, htk, hMp⟩
    ·exact .inl h
    ·right
     have hMp' := hMp (by omega)
     refine ⟨he, k + 1, (c - 128) + 128 * M, by omega, by simp; omega, by rw [ht]; push_cast; omega, by omega, ?_, hlt, ?_, fun _ => by omega⟩
     ·rw [hN, Int.pow_succ, Int.add_mul, Int.mul_comm (128 ^ i) 128, ← Int.mul_assoc, Int.mul_comm M 128]
      omega
     ·have hMlt : (c - 128) + 128 * M < 18446744073709551616 := by
       have h1 : (c - 128) + 128 * M ≤ ((c - 128) + 128 * M) * 128 ^ i := by
        have := Int.mul_le_mul_of_nonneg_left (show (1 : Int) ≤ 128 ^ i by omega) (show 0 ≤ (c - 128) + 128 * M by omega)
        omega
       have h2 : (rU p r (i + 1) (n + (c - 128) * 128 ^ i)).1 = n + ((c - 128) + 128 * M) * 128 ^ i := by
        rw [hN, Int.pow_succ, Int.add_mul, Int.mul_comm (128 ^ i) 128, ← Int.mul_assoc, Int.mul_comm M 128]
        omega
       omega
      rw [uB_step (by omega) hMlt, List.take_succ_cons, htk]
      congr 1
      ·omega
      ·congr 1
       omega
   ·rw [if_neg h128]
    by_cases hz : c = 0 ∧ 0 < i
    ·left; rw [if_pos hz]; simp
    ·right
     rw [if_neg hz]
     have hup := or_up n c i h0 hn (by omega) (by omega) (by omega)
     have hlt : n + c * 128 ^ i < 18446744073709551616 := by
      rcases hup.2.2 with h | h
      ·have h2 : i = 0 ∨ i = 1 ∨ i = 2 ∨ i = 3 ∨ i = 4 ∨ i = 5 ∨ i = 6 ∨ i = 7 ∨ i = 8 := by omega
       have h3 := hup.2.1
       rcases h2 with rfl | rfl | rfl | rfl | rfl | rfl | rfl | rfl | rfl <;> simp at h3 ⊢ <;> omega
      ·exact h
     exact ⟨rfl, 1, c, by omega, by simp, by simp, by omega, rfl, hlt, by rw [zcb (by omega)]; rfl, fun h => by omega⟩
end Go.Proofs.YtfgffajgfgifhaaGreatDoor
namespace Go.Proofs.YtfgffajgfgifhaaGreatDoor
set_option maxRecDepth 100000
set_option maxHeartbeats 1000000
def pU (l : List Int) : Option (Int × List Int) := if (rU 0 l 0 0).2.2 = 0 then some ((rU 0 l 0 0).1, l.drop (rU 0 l 0 0).2.1.toNat) else none
theorem pU_mid (n : Int) (r : List Int) (h0 : 0 ≤ n) (h : n < 18446744073709551616) : pU (uB n ++ r) = some (n, r) := by
 unfold pU
 rw [rU_uB 0 n r h0 h]
 simp
theorem pU_inv {l r : List Int} {n : Int} (hw : Wf l) (h : pU l = some (n, r)) : l = uB n ++ r ∧ 0 ≤ n ∧ n < 18446744073709551616 ∧ Wf r := by
 unfold pU at h
 split at h
 ·next he =>
  simp only [Option.some.injEq, Prod.mk.injEq] at h
  obtain ⟨h1, h2⟩ := h
  rcases rU_spec l 0 0 0 hw (by omega) (by omega) (by omega) with ⟨g, _⟩ | ⟨_, k, M, g1, g2, g3, g4, g5, g6, g7, _⟩
  ·exact absurd he g
  ·have e1 : n = M := by rw [← h1, g5]; simp
   have e2 : (rU 0 l 0 0).2.1.toNat = k := by rw [g3]; omega
   rw [e2] at h2
   subst e1
   refine ⟨?_, g4, by rw [← h1]; exact g6, by rw [← h2]; exact hw.drop _⟩
   rw [← h2, ← g7, List.take_append_drop]
 ·cases h
def pT (l : List Int) : Option (List Int × List Int) :=
 match pU l with
 | none => none
 | some (n, r) => if (r.length : Int) < n then none else some (r.take n.toNat, r.drop n.toNat)
def pC (l : List Int) : Option (Cl × List Int) :=
 match pNum 1 l with
 | none => none
 | some (k, r) =>
  match pT r with
  | none => none
  | some (key, r) =>
   if k = 1 then
    match pT r with
    | none => none
    | some (val, r) => some (⟨key, k, val, 0, 0⟩, r)
   else
    match pU r with
    | none => none
    | some (p, r) =>
     match pU r with
     | none => none
     | some (c, r) => some (⟨key, k, [], RowKit.wrap64 p, RowKit.wrap64 c⟩, r)
def qB (m : Nat) (c : Cl) : List Int := [c.kd % 256] ++ (uB ((c.key.length - m : Nat) : Int) ++ (c.key.drop m ++ (if c.kd = 1 then uB c.val.length ++ c.val else uB (c.pg % 18446744073709551616) ++ uB (c.ct % 18446744073709551616))))
def tL (n : Nat) : Nat := (uB (n : Int)).length + n
def qtk (m : Nat) (c : Cl) : Nat := 3 + tL (c.key.length - m) + (if c.kd = 1 then tL c.val.length else (uB (c.pg % 18446744073709551616)).length + (uB (c.ct % 18446744073709551616)).length)
theorem qB_length (m : Nat) (c : Cl) : (qB m c).length + 2 = qtk m c := by
 unfold qB qtk tL
 split <;> simp only [zG, List.length_cons, List.length_nil, zK] <;> omega
theorem qB_wf {m : Nat} {c : Cl} (h : c.Wf) (h1 : c.key.length < 18446744073709551616) (h2 : c.val.length < 18446744073709551616) : Wf (qB m c) := by
 unfold qB
 refine Wf.append (Wf.cons (by omega) Wf.nil) (Wf.append (uB_wf (by omega) (by omega)) (Wf.append (h.1.drop m) ?_))
 split
 ·exact Wf.append (uB_wf (by omega) (by omega)) h.2
 ·exact Wf.append (uB_wf (by omega) (by omega)) (uB_wf (by omega) (by omega))
def Cl.cut (c : Cl) (m : Nat) : Cl := ⟨c.key.drop m, c.kd, c.val, c.pg, c.ct⟩
def Cl.pre (c : Cl) (P : List Int) : Cl := ⟨P ++ c.key, c.kd, c.val, c.pg, c.ct⟩
theorem Cl.cut_pre (c : Cl) (m : Nat) (P : List Int) (h : c.key.take m = P) : (c.cut m).pre P = c := by
 subst h
 obtain ⟨key, kd, val, pg, ct⟩ := c
 simp [Cl.cut, Cl.pre, List.take_append_drop]
theorem pT_mid (t r : List Int) (h : t.length < 18446744073709551616) : pT (uB t.length ++ (t ++ r)) = some (t, r) := by
 unfold pT
 rw [pU_mid _ _ (by omega) (by omega)]
 simp only
 rw [if_neg (by rw [zG]; omega), Int.toNat_natCast, List.take_left, List.drop_left]
theorem pC_mid (m : Nat) (c : Cl) (r : List Int) (h : c.fit) : pC (qB m c ++ r) = some (c.cut m, r) := by
 obtain ⟨key, kd, val, pg, ct⟩ := c
 obtain ⟨h1, h2, h3, h4, h5, h6, h7⟩ := h
 simp only at h1 h2 h3 h4 h5 h6 h7
 unfold qB pC Cl.cut
 simp only
 rw [zM, show ([kd % 256] : List Int) = fB 1 kd from by simp [fB], pNum_mid 1 kd _ h1.1 (by omega)]
 simp only
 rw [zM, zM, show key.length - m = (key.drop m).length from by rw [zK], pT_mid _ _ (by rw [zK]; omega)]
 simp only
 by_cases e : kd = 1
 ·rw [if_pos e, if_pos e, zM, pT_mid _ _ (by omega)]
  simp only
  obtain ⟨rfl, rfl⟩ := h6 e
  rfl
 ·have e4 : pg % 18446744073709551616 = pg := by omega
  have e5 : ct % 18446744073709551616 = ct := by omega
  rw [if_neg e, if_neg e, zM, e4, e5, pU_mid pg _ h4.1 (by omega)]
  simp only
  rw [pU_mid ct _ h5.1 (by omega)]
  simp only
  have e6 : RowKit.wrap64 pg = pg := by unfold RowKit.wrap64; omega
  have e7 : RowKit.wrap64 ct = ct := by unfold RowKit.wrap64; omega
  rw [h7 e, e6, e7]
theorem pT_inv {l r t : List Int} (hw : Wf l) (h : pT l = some (t, r)) : l = uB t.length ++ (t ++ r) ∧ Wf t ∧ Wf r := by
 unfold pT at h
 split at h
 ·cases h
 ·next n r' e =>
  obtain ⟨h1, h2, h3, h4⟩ := pU_inv hw e
  split at h
  ·cases h
  ·next hl =>
   simp only [Option.some.injEq, Prod.mk.injEq] at h
   obtain ⟨rfl, rfl⟩ := h
   have ht : (r'.take n.toNat).length = n.toNat := by rw [zJ]; omega
   refine ⟨?_, h4.take _, h4.drop _⟩
   rw [ht, Int.toNat_of_nonneg h2, List.take_append_drop]
   exact h1
theorem pC_inv {l r : List Int} {c : Cl} (hw : Wf l) (h : pC l = some (c, r)) : l = qB 0 c ++ r ∧ c.Wf ∧ Wf r ∧ (0 ≤ c.kd ∧ c.kd ≤ 255) := by
 unfold pC at h
 split at h
 ·cases h
 ·next k r1 e1 =>
  obtain ⟨h1, h2, h3, h4⟩ := pNum_inv hw e1
  split at h
  ·cases h
  ·next key r2 e2 =>
   obtain ⟨g1, g3, g4⟩ := pT_inv h4 e2
   split at h
   ·next hk =>
    split at h
    ·cases h
    ·next val r3 e3 =>
     obtain ⟨f1, f3, f4⟩ := pT_inv g4 e3
     simp only [Option.some.injEq, Prod.mk.injEq] at h
     obtain ⟨rfl, rfl⟩ := h
     refine ⟨?_, ⟨g3, f3⟩, f4, by simp only; omega⟩
     rw [h1, g1, f1]
     simp [qB, hk, fB]
   ·next hk =>
    split at h
    ·cases h
    ·next p r3 e3 =>
     obtain ⟨f1, f2, f3, f4⟩ := pU_inv g4 e3
     split at h
     ·cases h
     ·next ct r4 e4 =>
      obtain ⟨d1, d2, d3, d4⟩ := pU_inv f4 e4
      simp only [Option.some.injEq, Prod.mk.injEq] at h
      obtain ⟨rfl, rfl⟩ := h
      have e5 : RowKit.wrap64 p % 18446744073709551616 = p := by unfold RowKit.wrap64; omega
      have e6 : RowKit.wrap64 ct % 18446744073709551616 = ct := by unfold RowKit.wrap64; omega
      refine ⟨?_, ⟨g3, Wf.nil⟩, d4, by simp only; omega⟩
      rw [h1, g1, f1, d1]
      simp [qB, hk, fB, e5, e6]
end Go.Proofs.YtfgffajgfgifhaaGreatDoor
namespace Go.Proofs.YtfgffajgfgifhaaGreatDoor
set_option maxRecDepth 100000
set_option maxHeartbeats 1000000
open Go.RowKit
theorem readUint_arg (ao : Option Addr) (n cap : Nat) (p : Int) (w : World) (h : p < 0 ∨ n < p) :
  Calls Tryz.prog 150 #[.slice ao n cap, .int .i64 p] w fun e w' => e = .returned (.tuple #[.int .u64 0, .int .i64 0, .int .i64 1]) ∧ w' = w := by
 go_enter Tryz.func150, Tryz.ntmps150
 go_wp2_with (go_at_call 154; refine zae (isPlace_no _ _ _ _ _ h) ?_)
 go_ret3
 exact ⟨rfl, rfl⟩
theorem readUint_end (ao : Option Addr) (n cap : Nat) (w : World) (hn : n ≤ 140737488355328) :
  Calls Tryz.prog 150 #[.slice ao n cap, .int .i64 n] w fun e w' => e = .returned (.tuple #[.int .u64 0, .int .i64 0, .int .i64 10]) ∧ w' = w := by
 go_enter Tryz.func150, Tryz.ntmps150
 go_wp2_with (go_at_call 154; refine zae (zdk _ _ _ _ _ (by omega) (by omega)) ?_)
 all_goals
  refine wp_loop_rounds 1 ?_
  rw [rounds_succ]
  go_wp2
  go_ret3
  exact ⟨rfl, rfl⟩
theorem readUint_in (b off n cap : Nat) (l : List Int) (p : Nat) (w : World) (hs : Sl w (some ⟨b, off, none⟩) n cap l) (hp : p < n) :
  Calls Tryz.prog 150 #[.slice (some ⟨b, off, none⟩) n cap, .int .i64 p] w fun e w' => e = .returned (.tuple #[.int .u64 (rU p (l.drop p) 0 0).1, .int .i64 (rU p (l.drop p) 0 0).2.1, .int .i64 (rU p (l.drop p) 0 0).2.2]) ∧ w' = w := by
 obtain ⟨hlen, hcap, hroom, hwf, hnil, hat⟩ := hs
 rcases hat with h | ⟨b', off', he, hb, hc⟩
 ·omega
 cases he
 go_enter Tryz.func150, Tryz.ntmps150
 go_wp2_with (go_at_call 154; refine zae (zdk _ _ _ _ _ (by omega) (by omega)) ?_)
 go_loop [7, 18] (fun v i => ∃ (k : Nat) (m : Int), k ≤ n - p ∧ k ≤ 9 ∧ i = .int .i64 k ∧ v = .int .u64 m ∧ 0 ≤ m ∧ m < 128 ^ k ∧ rU p (l.drop (p + k)) k m = rU p (l.drop p) 0 0) (fun _ i => (n - p) - (intOf i).toNat)
 case atStart => exact ⟨0, 0, by omega, by omega, rfl, rfl, by omega, by simp, rfl⟩
 case round =>
  obtain ⟨k, m, hk, hk9, rfl, rfl, hm0, hm, hR⟩ := hrel
  have HR := zaa hR
  clear hR
  by_cases hlt : k < n - p
  ·have hck : w.cell? ⟨b, off + p + k, none⟩ = some (.int .u8 (l.getD (p + k) 0)) := by
    rw [Nat.add_assoc, hc (p + k) (by omega)]
   have hby := hwf.getD (p + k)
   have HD := zaa (zbs l (p + k) (by omega))
   generalize l.getD (p + k) 0 = c at *
   by_cases h9 : k = 9 ∧ 1 < c
   ·obtain ⟨rfl, hc1⟩ := h9
    have e : rU p (l.drop p) 0 0 = (0, 0, 12) := by rw [← HR.out, HD.out, rU, if_pos ⟨rfl, hc1⟩]
    have HE := zaa e
    clear e
    go_wp2
    go_ret3
    exact ⟨by rw [HE.out]; rfl, rfl⟩
   ·by_cases hcc : 128 ≤ c
    ·have hand := andNot_hi c hcc hby.2
     have h9' : k < 9 := by omega
     clear h9
     have hup := or_up m (c - 128) k hm0 hm (by omega) (by omega) (.inl h9')
     have HU := zaa hup.1
     have HL := zaa hup.2.1
     have hd0 : 0 ≤ (c - 128) * 128 ^ k := Int.mul_nonneg (by omega) (Int.le_of_lt (Int.pow_pos (by omega)))
     clear hup
     go_wp2
     go_round
     case rel =>
      refine ⟨k + 1, m + (c - 128) * 128 ^ k, by omega, by omega, by go_num, by rw [HU.out], by omega, HL.out, ?_⟩
      rw [← HR.out, HD.out, rU, if_neg (by omega), if_pos hcc, Nat.add_assoc]
     case measure => simp [intOf]; omega
    ·have hand := andNot_lo c hby.1 (by omega)
     have hup := or_up m c k hm0 hm (by omega) (by omega) (by omega)
     have HU := zaa hup.1
     clear hup
     by_cases h0 : c = 0 ∧ 0 < k
     ·obtain ⟨rfl, hk0⟩ := h0
      have e : rU p (l.drop p) 0 0 = (0, 0, 11) := by rw [← HR.out, HD.out, rU, if_neg (by omega), if_neg (by omega), if_pos ⟨rfl, hk0⟩]
      have HE := zaa e
      clear e HU
      by_cases h9k : k = 9
      ·subst h9k
       go_wp2
       go_ret3
       exact ⟨by rw [HE.out]; rfl, rfl⟩
      ·have hb9 : ((k : Int) == 9) = false := by simp; omega
       go_wp2
       go_ret3
       exact ⟨by rw [HE.out]; rfl, rfl⟩
     ·have e : rU p (l.drop p) 0 0 = (m + c * 128 ^ k, (p : Int) + k + 1, 0) := by rw [← HR.out, HD.out, rU, if_neg (by omega), if_neg (by omega), if_neg h0]
      have HE := zaa e
      clear e
      by_cases h9k : k = 9
      ·subst h9k
       obtain rfl : c = 1 := by omega
       have hor := HU.out
       rw [show IntKind.u64.wrap (1 * 2 ^ (7 * 9)) = 9223372036854775808 by rw [IntKind.wrap_u64]; decide] at hor
       have HO := zaa hor
       clear hor HU
       go_wp2
       go_ret3
       exact ⟨by rw [HE.out, ← HO.out]; rfl, rfl⟩
      ·have hb9 : ((k : Int) == 9) = false := by simp; omega
       by_cases hc0 : c = 0
       ·subst hc0
        have hk0 : k ≤ 0 := by omega
        have ho : bits .or .u64 m 0 = m := by
         have := HU.out
         simp only [Int.zero_mul, Int.add_zero] at this
         rw [show IntKind.u64.wrap 0 = 0 by decide] at this
         exact this
        have hE := HE.out
        simp only [Int.zero_mul, Int.add_zero] at hE
        have HE' := zaa hE
        clear hE HE HU
        go_wp2
        go_ret3
        exact ⟨by rw [HE'.out]; rfl, rfl⟩
       ·have hb0 : (c == 0) = false := by simp; omega
        go_wp2
        go_ret3
        exact ⟨by rw [HE.out, ← HU.out]; rfl, rfl⟩
  ·have e : rU p (l.drop p) 0 0 = (0, 0, 10) := by rw [← HR.out, List.drop_eq_nil_of_le (by omega), rU]
   have HE := zaa e
   clear e
   go_wp2
   go_ret3
   exact ⟨by rw [HE.out]; rfl, rfl⟩
theorem readUint_any (ao : Option Addr) (n cap : Nat) (l : List Int) (p' : Int) (w : World) (hs : Sl w ao n cap l) (h0 : 0 ≤ p') (hp : p' ≤ n) :
  Calls Tryz.prog 150 #[.slice ao n cap, .int .i64 p'] w fun e w' => e = .returned (.tuple #[.int .u64 (rU p' (l.drop p'.toNat) 0 0).1, .int .i64 (rU p' (l.drop p'.toNat) 0 0).2.1, .int .i64 (rU p' (l.drop p'.toNat) 0 0).2.2]) ∧ w' = w := by
 obtain ⟨p, rfl⟩ := Int.eq_ofNat_of_zero_le h0
 rw [Int.toNat_natCast]
 by_cases h : p = n
 ·subst h
  rw [List.drop_eq_nil_of_le (by rw [hs.hlen]; exact Lr)]
  exact readUint_end ao p cap w hs.hroom
 ·rcases hs.hat with h' | ⟨b, off, rfl, hb, hc⟩
  ·omega
  ·exact readUint_in b off n cap l p w hs (by omega)
structure Cf (F : Nat → Prop) (w w' : World) : Prop where
 os : w'.os = w.os
 tape : w'.tape = w.tape
 output : w'.output = w.output
 size : w.heap.size ≤ w'.heap.size
 block : ∀ k, k < w.heap.size → ¬ F k → w'.heap[k]? = w.heap[k]?
theorem Cf.refl (F : Nat → Prop) (w : World) : Cf F w w := ⟨rfl, rfl, rfl, Lr, fun _ _ _ => rfl⟩
theorem Cf.trans {F G : Nat → Prop} {a b c : World} (h : Cf F a b) (k : Cf G b c) (hG : ∀ i, i < a.heap.size → G i → F i) : Cf F a c :=
 ⟨k.os.trans h.os, k.tape.trans h.tape, k.output.trans h.output, zN h.size k.size, fun i hi hf => (k.block i (zO hi h.size) fun g => hf (hG i hi g)).trans (h.block i hi hf)⟩
theorem Cf.go {F : Nat → Prop} {a b c : World} (h : Cf F a b) (k : Cf F b c) : Cf F a c := h.trans k fun _ _ g => g
theorem Cf.of_below {F : Nat → Prop} {a b : World} (h : Below a.heap.size a b) : Cf F a b := ⟨h.os, h.tape, h.output, h.size, fun k hk _ => h.block k hk⟩
theorem Cf.below {F : Nat → Prop} {a b : World} {B : Nat} (h : Cf F a b) (hB : B ≤ a.heap.size) (hF : ∀ k, k < B → ¬ F k) : Below B a b := ⟨h.os, h.tape, h.output, h.size, fun k hk => h.block k (by omega) (hF k hk)⟩
theorem Cf.alloc (F : Nat → Prop) (w : World) (o : Obj) : Cf F w (w.alloc o) := ⟨rfl, rfl, rfl, by simp, fun k hk _ => Below.heap_alloc _ _ _ hk⟩
theorem Cf.setCell {F : Nat → Prop} (w : World) {p : Addr} (hp : F p.block) (u : Value) : Cf F w (w.setCell p u) :=
 ⟨rfl, rfl, rfl, by simp [World.setCell], fun k _ hk => Below.heap_setCell _ _ _ _ fun e => hk (e ▸ hp)⟩
theorem Cf.set (w : World) (r k : Nat) (u : Value) : Cf (· = r) w (w.setCell ⟨r, k, none⟩ u) := Cf.setCell (F := (· = r)) w (p := ⟨r, k, none⟩) rfl u
theorem Cf.drew (F : Nat → Prop) (w : World) (n : Nat) : Cf F w (w.drewN n) := ⟨rfl, rfl, rfl, Lr, fun _ _ _ => rfl⟩
def Rdq (w : World) (r : Nat) (ao : Option Addr) (n cap at_ : Nat) (en : Bool) : Prop := w.heap[r]? = some (.cells #[.slice ao n cap, .int .i64 (at_ : Int), .bool en] 104 (0, 0))
theorem Rdq.c0 {w : World} {r : Nat} {ao : Option Addr} {n cap at_ : Nat} {en : Bool} (h : Rdq w r ao n cap at_ en) : w.cell? ⟨r, 0, none⟩ = some (.slice ao n cap) := by rw [cell_of_row _ _ 0 _ _ _ h]; rfl
theorem Rdq.c1 {w : World} {r : Nat} {ao : Option Addr} {n cap at_ : Nat} {en : Bool} (h : Rdq w r ao n cap at_ en) : w.cell? ⟨r, 1, none⟩ = some (.int .i64 (at_ : Int)) := by rw [cell_of_row _ _ 1 _ _ _ h]; rfl
theorem Rdq.c2 {w : World} {r : Nat} {ao : Option Addr} {n cap at_ : Nat} {en : Bool} (h : Rdq w r ao n cap at_ en) : w.cell? ⟨r, 2, none⟩ = some (.bool en) := by rw [cell_of_row _ _ 2 _ _ _ h]; rfl
theorem Rdq.free {w : World} {r : Nat} {ao : Option Addr} {n cap at_ : Nat} {en : Bool} (h : Rdq w r ao n cap at_ en) (k : Nat) : w.frozen? ⟨r, k, none⟩ = false := by
 unfold Rdq at h
 simp [World.frozen?, h]
theorem Rdq.drewN {w : World} {r : Nat} {ao : Option Addr} {n cap at_ : Nat} {en : Bool} (h : Rdq w r ao n cap at_ en) (q : Nat) : Rdq (w.drewN q) r ao n cap at_ en := h
theorem Rdq.lt {w : World} {r : Nat} {ao : Option Addr} {n cap at_ : Nat} {en : Bool} (h : Rdq w r ao n cap at_ en) : r < w.heap.size := zag h
theorem Rdq.set1 {w : World} {r : Nat} {ao : Option Addr} {n cap at_ : Nat} {en : Bool} (h : Rdq w r ao n cap at_ en) (x : Nat) : Rdq (w.setCell ⟨r, 1, none⟩ (.int .i64 (x : Int))) r ao n cap x en := by
 unfold Rdq at *
 have := zam (w := w) (a := r) (cs := [.slice ao n cap, .int .i64 (at_ : Int), .bool en]) (i := 1) (u := .int .i64 (x : Int)) h
 simpa using this
theorem Rdq.set2 {w : World} {r : Nat} {ao : Option Addr} {n cap at_ : Nat} {en : Bool} (h : Rdq w r ao n cap at_ en) (x : Bool) : Rdq (w.setCell ⟨r, 2, none⟩ (.bool x)) r ao n cap at_ x := by
 unfold Rdq at *
 have := zam (w := w) (a := r) (cs := [.slice ao n cap, .int .i64 (at_ : Int), .bool en]) (i := 2) (u := .bool x) h
 simpa using this
theorem Sl.apart {w : World} {ao : Option Addr} {n cap : Nat} {l : List Int} (h : Sl w ao n cap l) {r : Nat} {a : Option Addr} {b c d : Nat} {en : Bool} (hr : Rdq w r a b c d en) : n = 0 ∨ ∀ p, ao = some p → p.block ≠ r := by
 rcases h.hat with h0 | ⟨g, off, rfl, hg, hc⟩
 ·exact .inl h0
 ·rcases Nat.eq_zero_or_pos n with h0 | h0
  ·exact .inl h0
  ·right
   rintro p hp rfl
   injection hp with hp
   subst hp
   have h1 := hc 0 h0
   rw [cell_of_row _ _ _ _ _ _ hr] at h1
   rcases Nat.lt_or_ge (off + 0) 3 with h3 | h3
   ·have h4 : off + 0 = 0 ∨ off + 0 = 1 ∨ off + 0 = 2 := by omega
    rcases h4 with h4 | h4 | h4 <;> (rw [h4] at h1; simp at h1)
   ·rw [Array.getElem?_eq_none (by simpa using h3)] at h1
    cases h1
theorem Sl.cf {w w' : World} {ao : Option Addr} {n cap : Nat} {l : List Int} {F : Nat → Prop} (h : Sl w ao n cap l) (hc : Cf F w w') (hf : n = 0 ∨ ∀ p, ao = some p → ¬ F p.block) : Sl w' ao n cap l := by
 refine ⟨h.hlen, h.hcap, h.hroom, h.wf, h.hnil, ?_⟩
 rcases h.hat with h0 | ⟨b, off, e, hlt, hcl⟩
 ·exact .inl h0
 ·rcases hf with h0 | hf
  ·exact .inl h0
  ·refine .inr ⟨b, off, e, zO hlt hc.size, fun i hi => ?_⟩
   have := hc.block b hlt (hf _ e)
   rw [← hcl i hi]
   simp only [World.cell?, this]
theorem Sl.piece {w : World} {g off n cap : Nat} {l : List Int} (h : Sl w (some ⟨g, off, none⟩) n cap l) (a k c : Nat) (hk : a + k ≤ n) (hc : k ≤ c) : Sl w (some ⟨g, off + a, none⟩) k c ((l.drop a).take k) := by
 have hl := h.hlen
 refine ⟨by rw [zJ, zK]; omega, hc, zN (by omega) h.hroom, (h.wf.drop a).take k, (by intro e; cases e), ?_⟩
 rcases h.hat with h0 | ⟨b, o, e, hlt, hcl⟩
 ·exact .inl (by omega)
 ·injection e with e
  injection e with e1 e2
  subst e1 e2
  refine .inr ⟨g, off + a, rfl, hlt, fun i hi => ?_⟩
  rw [Nat.add_assoc, hcl (a + i) (by omega)]
  simp [List.getD, hi]
theorem Sl.nil_any (w : World) (ao : Option Addr) (c : Nat) (h : ao = none → c = 0) : Sl w ao 0 c [] := ⟨rfl, Nat.zero_le _, by omega, Wf.nil, h, .inl rfl⟩
def UNumTo (l : List Int) (w : World) (r : Nat) (ao : Option Addr) (n cap at_ : Nat) (en : Bool) (e : Ending) (w' : World) : Prop :=
 ∃ (v : Int) (p : Nat) (en' : Bool), e = .returned (.int .u64 v) ∧ Hid (Rdq w' r ao n cap p en') ∧ Hid (Cf (· = r) w w') ∧ Hid ((0 ≤ v ∧ v < 18446744073709551616) ∧ p ≤ n ∧ ((pU (l.drop at_) = some (v, l.drop p) ∧ en' = en) ∨ (pU (l.drop at_) = none ∧ en' = true ∧ v = 0 ∧ p = at_)))
theorem rU_shift (l : List Int) : ∀ (p : Int) (i : Nat) (n : Int), (rU p l i n).1 = (rU 0 l i n).1 ∧ (rU p l i n).2.2 = (rU 0 l i n).2.2 ∧ ((rU 0 l i n).2.2 = 0 → (rU p l i n).2.1 = p + (rU 0 l i n).2.1) := by
 induction l with
 | nil => intro p i n; simp [rU]
 | cons c r ih =>
  intro p i n
  rw [rU, rU]
  split
  ·simp
  ·split
   ·exact ih p (i + 1) _
   ·split
    ·simp
    ·refine ⟨rfl, rfl, fun _ => ?_⟩
     simp only
     omega
theorem unumber_any (l : List Int) (w : World) (r : Nat) (ao : Option Addr) (n cap at_ : Nat) (en : Bool) (hr : Rdq w r ao n cap at_ en) (hs : Sl w ao n cap l) (ha : at_ ≤ n) :
  Calls Tryz.prog 131 #[.pointer (some ⟨r, 0, none⟩)] w fun e w' => UNumTo l w r ao n cap at_ en e w' := by
 have c0 := hr.c0
 have c1 := hr.c1
 have c2 := hr.c2
 have f1 := hr.free 1
 have f2 := hr.free 2
 have hn := hs.hroom
 have HR := zaa hr
 have hlen := hs.hlen
 have HF : Hid (∀ q, Calls Tryz.prog 150 #[.slice ao n cap, .int .i64 (at_ : Int)] (w.drewN q) fun e w' => e = .returned (.tuple #[.int .u64 (rU (at_ : Int) (l.drop at_) 0 0).1, .int .i64 (rU (at_ : Int) (l.drop at_) 0 0).2.1, .int .i64 (rU (at_ : Int) (l.drop at_) 0 0).2.2]) ∧ w' = w.drewN q) :=
  zaa fun q => by simpa using readUint_any ao n cap l (at_ : Int) (w.drewN q) (hs.drewN q) (by omega) (by omega)
 obtain ⟨s1, s2, s3⟩ := rU_shift (l.drop at_) (at_ : Int) 0 0
 have hsp := rU_spec (l.drop at_) 0 0 0 (hs.wf.drop at_) (by omega) (by omega) (by omega)
 rw [s1, s2] at HF
 by_cases h : (rU 0 (l.drop at_) 0 0).2.2 = 0
 ·obtain ⟨k, M, k1, k2, k3, k4, k5, k6⟩ : ∃ (k : Nat) (M : Int), 1 ≤ k ∧ k ≤ (l.drop at_).length ∧ (rU 0 (l.drop at_) 0 0).2.1 = k ∧ 0 ≤ M ∧ (rU 0 (l.drop at_) 0 0).1 = M ∧ (rU 0 (l.drop at_) 0 0).1 < 18446744073709551616 := by
   rcases hsp with ⟨g, _⟩ | ⟨_, k, M, g1, g2, g3, g4, g5, g6, _, _⟩
   ·exact absurd h g
   ·exact ⟨k, M, g1, g2, by rw [g3]; simp, g4, by rw [g5]; simp, g6⟩
  have e3 := s3 h
  rw [k3] at e3
  rw [e3, h, k5] at HF
  rw [k5] at k6
  have HP : Hid (pU (l.drop at_) = some (M, l.drop (at_ + k))) := zaa (by
   unfold pU
   rw [if_pos h, k5, k3, Int.toNat_natCast, List.drop_drop])
  rw [zK, hlen] at k2
  have bM : M ≤ 18446744073709551615 := by omega
  have HS : ∀ q, Hid (Rdq ((w.drewN q).setCell ⟨r, 1, none⟩ (.int .i64 ((at_ + k : Nat) : Int))) r ao n cap (at_ + k) en) := fun q => zaa (Rdq.set1 (HR.out.drewN q) (at_ + k))
  clear hs s1 s2 s3 hsp h k3 k5 e3
  go_enter Tryz.func131, Tryz.ntmps131
  go_wp2_with fail
  go_quiet (first | (go_at_call 150; exact Calls.quiet_of_same (HF.out _)))
  go_wp2
  go_ret
  exact ⟨M, at_ + k, en, rfl, by simpa using HS _, zaa ((Cf.drew _ _ _).go (Cf.set _ _ _ _)), zaa ⟨⟨k4, k6⟩, by omega, .inl ⟨HP.out, rfl⟩⟩⟩
 ·have HP : Hid (pU (l.drop at_) = none) := zaa (by unfold pU; rw [if_neg h])
  have hz : (rU 0 (l.drop at_) 0 0).1 = 0 := by
   rcases hsp with ⟨_, g, _⟩ | ⟨g, _⟩
   ·exact g
   ·exact absurd g h
  have d1 : ((rU 0 (l.drop at_) 0 0).2.2 == 0) = false := by simpa using h
  generalize (rU 0 (l.drop at_) 0 0).2.2 = er at *
  generalize (rU (at_ : Int) (l.drop at_) 0 0).2.1 = pe at *
  rw [hz] at HF
  clear hs s1 s2 s3 hsp hz
  go_enter Tryz.func131, Tryz.ntmps131
  go_wp2_with fail
  go_quiet (first | (go_at_call 150; exact Calls.quiet_of_same (HF.out _)))
  go_wp2
  go_ret
  exact ⟨0, at_, true, rfl, zaa (Rdq.set2 (HR.out.drewN _) true), zaa ((Cf.drew _ _ _).go (Cf.set _ _ _ _)), zaa ⟨⟨by omega, by omega⟩, ha, .inr ⟨HP.out, rfl, rfl, rfl⟩⟩⟩
end Go.Proofs.YtfgffajgfgifhaaGreatDoor
