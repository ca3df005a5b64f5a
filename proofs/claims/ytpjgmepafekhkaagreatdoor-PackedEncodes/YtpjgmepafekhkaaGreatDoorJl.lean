/- packed: standsWhole, uintLen, textLen, tailLen. -/
import Derived.Test.YtpjgmepafekhkaaGreatDoorJi
import Derived.Test.YtpjgmepafekhkaaGreatDoorJk
import Derived.Test.YtpjgmepafekhkaaGreatDoorShelf7
import Derived.Test.YtpjgmepafekhkaaGreatDoorMi
import Derived.Deep.MidRow
import Derived.Deep.Upon
import Derived.Laws.IdiomCopy
import Derived.Lib.SlBytesConst
import Derived.Test.YtpjgmepafekhkaaGreatDoorSum
namespace Go.Proofs.YtpjgmepafekhkaaGreatDoor
open Go.RowKit

set_option maxRecDepth 100000 in
theorem or_one (n : Int) (h0 : 0 ≤ n) (h1 : n < 18446744073709551616) : bits .or .u64 n 1 = n / 2 * 2 + 1 := by
  obtain ⟨m, rfl⟩ := Int.eq_ofNat_of_zero_le h0
  have hm : m < 18446744073709551616 := by omega
  have e : m ||| 1 = m / 2 * 2 + 1 := by
    have h2 : m % 2 ||| m / 2 * 2 ^ 1 = m % 2 + m / 2 * 2 ^ 1 := or_nat (m % 2) (m / 2) 1 (by omega)
    have h3 : 1 ||| m / 2 * 2 ^ 1 = 1 + m / 2 * 2 ^ 1 := or_nat 1 (m / 2) 1 (by omega)
    have h4 : m % 2 ||| 1 = 1 := by rcases Nat.mod_two_eq_zero_or_one m with e | e <;> rw [e] <;> rfl
    have h5 : m = m % 2 ||| m / 2 * 2 ^ 1 := by rw [h2]; omega
    conv => lhs; rw [h5]
    rw [Nat.or_assoc, Nat.or_comm (m / 2 * 2 ^ 1) 1, ← Nat.or_assoc, h4, h3]
    omega
  rw [u64_or _ _ (by omega) (by omega) (by omega) (by omega), Int.toNat_natCast, show (1 : Int).toNat = 1 from rfl, e]
  omega
set_option maxRecDepth 100000 in
theorem bl_small : ∀ n : Fin 128, n.val ≠ 0 → 1 ≤ Lib.bitLen n.val ∧ Lib.bitLen n.val ≤ 7 := by decide +kernel
set_option maxRecDepth 100000 in
theorem uB_bits : ∀ (f : Nat) (m : Nat), m ≠ 0 → m < 18446744073709551616 → m < 128 ^ f → (Lib.bitLen m + 6) / 7 = (uB (m : Int)).length
  | 0, m, h0, _, h => by simp at h; omega
  | f + 1, m, h0, h1, h => by
    by_cases hm : m < 128
    · have := bl_small ⟨m, hm⟩ h0
      rw [uB_small (by omega)]
      simp only [List.length_cons, List.length_nil] at *
      omega
    · have e := Lib.bitLen_shift 7 m (by omega) (by omega)
      have ih := uB_bits f (m / 128) (by omega) (by omega) (by rw [Nat.pow_succ] at h; omega)
      rw [uB_step (by omega) (by omega), List.length_cons, e, show (2 : Nat) ^ 7 = 128 from rfl]
      rw [show ((m : Int) / 128) = ((m / 128 : Nat) : Int) by omega, ← ih]
      omega
set_option maxRecDepth 100000 in
theorem uB_odd (n : Int) (h0 : 0 ≤ n) (h1 : n < 18446744073709551616) : (uB (n / 2 * 2 + 1)).length = (uB n).length := by
  by_cases h : n < 128
  · rw [uB_small h, uB_small (by omega)]
    rfl
  · rw [uB_step h h1, uB_step (n := n / 2 * 2 + 1) (by omega) (by omega), show (n / 2 * 2 + 1) / 128 = n / 128 by omega]
    simp
set_option maxRecDepth 100000 in
theorem standsWhole_any (k i : Int) (w : World) : Calls Tryz.prog 54 #[.int .i64 k, .int .i64 i] w fun e w' => e = .returned (.bool (decide (k = 3 ∧ i = 0))) ∧ w' = w := by
  by_cases h1 : k = 3
  · by_cases h2 : i = 0
    · subst h1 h2
      go_enter Tryz.func54, Tryz.ntmps54
      go_wp2
      go_ret
      exact ⟨rfl, rfl⟩
    · have d2 : (i == 0) = false := by simpa using h2
      subst h1
      go_enter Tryz.func54, Tryz.ntmps54
      go_wp2
      go_ret
      simp [h2]
  · have d1 : (k == 3) = false := by simpa using h1
    go_enter Tryz.func54, Tryz.ntmps54
    go_wp2
    go_ret
    simp [h1]
set_option maxRecDepth 100000 in
theorem uintLen_any (n : Int) (w : World) (h0 : 0 ≤ n) (h1 : n < 18446744073709551616) : Calls Tryz.prog 85 #[.int .u64 n] w fun e w' => e = .returned (.int .i64 ((uB n).length : Int)) ∧ w' = w := by
  have ho := or_one n h0 h1
  obtain ⟨m, hm⟩ : ∃ m : Nat, n / 2 * 2 + 1 = (m : Int) := ⟨(n / 2 * 2 + 1).toNat, by omega⟩
  have hl := uB_bits 10 m (by omega) (by omega) (by omega)
  have hlu := uB_odd n h0 h1
  rw [hm] at ho hlu
  have HB := hidden (Tryz.bits_Len64 (m : Int) w (by omega) (by omega))
  rw [Int.toNat_natCast] at HB
  have hb : Lib.bitLen m ≤ 64 := Lib.bitLen_le m 64 (by omega) (by omega)
  have e1 : ((uB n).length : Int) = ((Lib.bitLen m : Int) + 6) / 7 := by rw [← hlu, ← hl]; omega
  rw [e1]
  generalize Lib.bitLen m = x at *
  clear hl hlu e1
  go_enter Tryz.func85, Tryz.ntmps85
  go_wp2_with (go_at_call 107; refine same_call HB.out ?_)
  go_ret
  exact ⟨rfl, rfl⟩
set_option maxRecDepth 100000 in
theorem textLen_any (n : Nat) (w : World) (h : n ≤ 140737488355328) : Calls Tryz.prog 55 #[.int .i64 (n : Int)] w fun e w' => e = .returned (.int .i64 (tL n : Int)) ∧ w' = w := by
  have HU := hidden (uintLen_any (n : Int) w (by omega) (by omega))
  have hw : IntKind.u64.wrap (n : Int) = (n : Int) := by rw [IntKind.wrap_u64]; omega
  have hu := (uB_length (n : Int)).1
  have e1 : (tL n : Int) = ((uB (n : Int)).length : Int) + (n : Int) := by unfold tL; omega
  rw [e1]
  generalize (uB (n : Int)).length = x at *
  clear e1
  go_enter Tryz.func55, Tryz.ntmps55
  go_wp2_with (go_at_call 85; refine same_call HU.out ?_)
  go_ret
  exact ⟨rfl, rfl⟩
/-- What stands behind a key takes. -/
def tlN (kd : Int) (vn : Nat) (pg ct : Int) : Nat := if kd = 1 then tL vn else (uB (pg % 18446744073709551616)).length + (uB (ct % 18446744073709551616)).length
set_option maxRecDepth 100000 in
theorem tailLen_any (ka : Option Addr) (kn kc : Nat) (kd : Int) (va : Option Addr) (vn vc : Nat) (pg ct : Int) (w : World) (hv : vn ≤ 140737488355328) :
    Calls Tryz.prog 56 #[.agg #[.slice ka kn kc, .int .i64 kd, .slice va vn vc, .int .i64 pg, .int .i64 ct]] w fun e w' => e = .returned (.int .i64 (tlN kd vn pg ct : Int)) ∧ Below w.heap.size w w' := by
  obtain ⟨x, hx⟩ : ∃ x, w.alloc (.cells #[.slice ka kn kc, .int .i64 kd, .slice va vn vc, .int .i64 pg, .int .i64 ct] 47) = x := ⟨_, rfl⟩
  have hbx : Below w.heap.size w x := by rw [← hx]; exact bl_al (Below.refl _ _) (Nat.le_refl _) _
  have hc5 : C5 x w.heap.size (.slice ka kn kc) (.int .i64 kd) (.slice va vn vc) (.int .i64 pg) (.int .i64 ct) := by rw [← hx]; exact C5.box w _ _ _ _ _
  obtain ⟨c0, c1, c2, c3, c4⟩ := hc5.cells
  have HBX := hidden hbx
  clear hc5 hbx
  unfold tlN
  by_cases h : kd = 1
  · subst h
    rw [if_pos rfl]
    have HT := hidden (textLen_any vn x hv)
    go_enter Tryz.func56, Tryz.ntmps56
    go_wp2_with (go_at_call 55; refine same_call HT.out ?_)
    go_ret
    exact ⟨rfl, HBX.out⟩
  · rw [if_neg h]
    have hk1b : (kd == 1) = false := by simpa using h
    obtain ⟨P, hP⟩ : ∃ P, pg % 18446744073709551616 = P := ⟨_, rfl⟩
    obtain ⟨C, hC⟩ : ∃ C, ct % 18446744073709551616 = C := ⟨_, rfl⟩
    have hPw : IntKind.u64.wrap pg = P := by rw [IntKind.wrap_u64, hP]
    have hCw : IntKind.u64.wrap ct = C := by rw [IntKind.wrap_u64, hC]
    have HU : Hid (∀ z q, (z = P ∨ z = C) → Calls Tryz.prog 85 #[.int .u64 z] (x.drewN q) fun e w' => e = .returned (.int .i64 ((uB z).length : Int)) ∧ w' = x.drewN q) := hidden fun z q hz => uintLen_any z _ (by omega) (by omega)
    have u1 := (uB_length P).1
    have u2 := (uB_length C).1
    rw [hP, hC]
    have b1 : ((uB P).length : Int) ≤ 10 := by omega
    have b2 : ((uB C).length : Int) ≤ 10 := by omega
    have b3 : IntKind.i64.wrap (((uB P).length : Int) + ((uB C).length : Int)) = ((uB P).length : Int) + ((uB C).length : Int) := by rw [IntKind.wrap_i64]; omega
    clear hP hC
    go_enter Tryz.func56, Tryz.ntmps56
    go_wp2_with fail
    go_quiet (first | (go_at_call 85; exact Calls.quiet_of_same (HU.out _ _ (by simp))))
    go_wp2
    go_ret
    exact ⟨by simp, bl_dr HBX.out _⟩
end Go.Proofs.YtpjgmepafekhkaaGreatDoor

/- Rows of cells in memory (package packed). -/

namespace Go.Proofs.YtpjgmepafekhkaaGreatDoor
open Go.RowKit

/-- A cell that lies in a row. -/
def CAt (w : World) (b off : Nat) (c : Cl) : Prop :=
  ∃ ka kc va vc, w.cell? ⟨b, off, none⟩ = some (.slice ka c.key.length kc) ∧ w.cell? ⟨b, off + 1, none⟩ = some (.int .i64 c.kd) ∧ w.cell? ⟨b, off + 2, none⟩ = some (.slice va c.val.length vc) ∧ w.cell? ⟨b, off + 3, none⟩ = some (.int .i64 c.pg) ∧ w.cell? ⟨b, off + 4, none⟩ = some (.int .i64 c.ct) ∧ Sl w ka c.key.length kc c.key ∧ Sl w va c.val.length vc c.val
/-- THE SLICE VALUE READS AS THE CELLS cs. -/
structure SlC (w : World) (ao : Option Addr) (n cap : Nat) (cs : List Cl) : Prop where
  hlen : cs.length = n
  hcap : n ≤ cap
  hroom : n ≤ 140737488355328
  hnil : ao = none → cap = 0
  hat : n = 0 ∨ ∃ b off, ao = some ⟨b, off, none⟩ ∧ b < w.heap.size ∧ ∀ i c, cs[i]? = some c → CAt w b (off + i * 5) c
set_option maxRecDepth 100000 in
theorem CAt.on {w w' : World} {b off : Nat} {c : Cl} (h : CAt w b off c) (hb : b < w.heap.size) (hB : Below w.heap.size w w') : CAt w' b off c := by
  obtain ⟨ka, kc, va, vc, h0, h1, h2, h3, h4, h5, h6⟩ := h
  exact ⟨ka, kc, va, vc, (hB.cell (p := ⟨b, off, none⟩) hb).trans h0, (hB.cell (p := ⟨b, off + 1, none⟩) hb).trans h1, (hB.cell (p := ⟨b, off + 2, none⟩) hb).trans h2, (hB.cell (p := ⟨b, off + 3, none⟩) hb).trans h3, (hB.cell (p := ⟨b, off + 4, none⟩) hb).trans h4, h5.on (Nat.le_refl _) hB, h6.on (Nat.le_refl _) hB⟩
set_option maxRecDepth 100000 in
theorem SlC.on {w w' : World} {ao : Option Addr} {n cap : Nat} {cs : List Cl} (h : SlC w ao n cap cs) (hB : Below w.heap.size w w') : SlC w' ao n cap cs := by
  refine ⟨h.hlen, h.hcap, h.hroom, h.hnil, ?_⟩
  rcases h.hat with h0 | ⟨b, off, e, hb, hc⟩
  · exact .inl h0
  · exact .inr ⟨b, off, e, Nat.lt_of_lt_of_le hb hB.size, fun i c hi => (hc i c hi).on hb hB⟩
set_option maxRecDepth 100000 in
theorem SlC.wf {w : World} {ao : Option Addr} {n cap : Nat} {cs : List Cl} (h : SlC w ao n cap cs) : ∀ c ∈ cs, c.Wf := by
  intro c hc
  obtain ⟨i, hi, e⟩ := List.getElem_of_mem hc
  rcases h.hat with h0 | ⟨b, off, _, _, hcs⟩
  · have := h.hlen; omega
  · obtain ⟨_, _, _, _, _, _, _, _, _, h5, h6⟩ := hcs i c (by rw [List.getElem?_eq_getElem hi, e])
    exact ⟨h5.wf, h6.wf⟩

/-- A block of so many cells. -/
def RowC (w : World) (b N : Nat) : Prop := ∃ cur : Array Value, w.heap[b]? = some (.cells cur 47 (0, 0)) ∧ cur.size = 5 * N
set_option maxRecDepth 100000 in
theorem RowC.cell {w : World} {b N : Nat} (h : RowC w b N) (j : Nat) (hj : j < 5 * N) : (w.cell? ⟨b, j, none⟩).isSome = true := by
  obtain ⟨cur, h1, h2⟩ := h
  simp [World.cell?, h1, h2, hj]
set_option maxRecDepth 100000 in
theorem RowC.free {w : World} {b N : Nat} (h : RowC w b N) (j : Nat) : w.frozen? ⟨b, j, none⟩ = false := by
  obtain ⟨cur, h1, h2⟩ := h
  simp [World.frozen?, h1]
set_option maxRecDepth 100000 in
theorem RowC.lt {w : World} {b N : Nat} (h : RowC w b N) : b < w.heap.size := by
  obtain ⟨cur, h1, _⟩ := h
  exact lt_some h1
set_option maxRecDepth 100000 in
theorem RowC.on {w w' : World} {b N : Nat} (h : RowC w b N) (hb : Below w.heap.size w w') : RowC w' b N := by
  obtain ⟨cur, h1, h2⟩ := h
  exact ⟨cur, box_on h1 hb, h2⟩
set_option maxRecDepth 100000 in
theorem RowC.set {w : World} {b N : Nat} (h : RowC w b N) (j : Nat) (v : Value) : RowC (w.setCell ⟨b, j, none⟩ v) b N := by
  obtain ⟨cur, h1, h2⟩ := h
  exact ⟨_, heap_setCell_same w b j cur _ v h1, by simp [h2]⟩
set_option maxRecDepth 100000 in
theorem RowC.sets {b N : Nat} : ∀ (vs : List Value) (j : Nat) (w : World), RowC w b N → RowC (w.setCells b j vs) b N
  | [], _, _, h => h
  | v :: r, j, _, h => RowC.sets r (j + 1) _ (h.set j v)
set_option maxRecDepth 100000 in
theorem RowC.there {w : World} {b N : Nat} (h : RowC w b N) {j : Nat} (hj : j + 5 ≤ 5 * N) : w.there b j 5 := fun i hi => ⟨h.cell (j + i) (by omega), h.free _⟩
set_option maxRecDepth 100000 in
theorem RowC.ne {w : World} {b N g : Nat} {l : List Int} (h : RowC w b N) (hk : Bk w g l) : ¬ g = b := by
  rintro rfl
  obtain ⟨cur, h1, _⟩ := h
  unfold Bk at hk
  rw [hk] at h1
  simp at h1
set_option maxRecDepth 100000 in
theorem oneCell5 (ka va : Option Addr) (kn kc vn vc : Nat) (kd pg ct : Int) : (#[.slice ka kn kc, .int .i64 kd, .slice va vn vc, .int .i64 pg, .int .i64 ct] : Array Value).all (·.oneCell') = true :=
  all_oneCell_toArray (cs := [.slice ka kn kc, .int .i64 kd, .slice va vn vc, .int .i64 pg, .int .i64 ct]) (by simp [Value.oneCell'])
set_option maxRecDepth 100000 in
/-- The store of a cell into a row. -/
theorem put_cell {ops : Array Oper} {rest : List Oper} {o : Oper} {a : Act} {w : World} {Q : Exit → Act → World → Prop} (hgd : o.guard = none) (p v : Operand)
    (ho : o.op = .store 47 p v) (b j N : Nat) (ka va : Option Addr) (kn kc vn vc : Nat) (kd pg ct : Int) (hr : RowC w b N) (hp : a.eval p = .pointer (some ⟨b, j, none⟩)) (hv : a.eval v = .agg #[.slice ka kn kc, .int .i64 kd, .slice va vn vc, .int .i64 pg, .int .i64 ct]) (hj : j + 5 ≤ 5 * N)
    (h : ∀ u, Hid (u = w.setCells b j [.slice ka kn kc, .int .i64 kd, .slice va vn vc, .int .i64 pg, .int .i64 ct]) → wpList Tryz.prog ops Q rest (a.put o.dst undef) u) : wpList Tryz.prog ops Q (o :: rest) a w :=
  wpList_store_mid hgd _ p v ho b j #[.slice ka kn kc, .int .i64 kd, .slice va vn vc, .int .i64 pg, .int .i64 ct] hp hv (hr.there hj) sizeCell (oneCell5 ..) (h _ (hidden rfl))
/-- A cell of one's own in a row. -/
def DAt (w : World) (B b off : Nat) (c : Cl) : Prop :=
  ∃ g1 g2, w.cell? ⟨b, off, none⟩ = some (.slice (some ⟨g1, 0, none⟩) c.key.length c.key.length) ∧ w.cell? ⟨b, off + 1, none⟩ = some (.int .i64 c.kd) ∧ w.cell? ⟨b, off + 2, none⟩ = some (.slice (some ⟨g2, 0, none⟩) c.val.length c.val.length) ∧ w.cell? ⟨b, off + 3, none⟩ = some (.int .i64 c.pg) ∧ w.cell? ⟨b, off + 4, none⟩ = some (.int .i64 c.ct) ∧ Bk w g1 c.key ∧ Bk w g2 c.val ∧ B ≤ g1 ∧ B ≤ g2
set_option maxRecDepth 100000 in
theorem DAt.on {w w' : World} {B b off : Nat} {c : Cl} (h : DAt w B b off c) (hb : b < w.heap.size) (hB : Below w.heap.size w w') : DAt w' B b off c := by
  obtain ⟨g1, g2, h0, h1, h2, h3, h4, h5, h6, h7⟩ := h
  exact ⟨g1, g2, (hB.cell (p := ⟨b, off, none⟩) hb).trans h0, (hB.cell (p := ⟨b, off + 1, none⟩) hb).trans h1, (hB.cell (p := ⟨b, off + 2, none⟩) hb).trans h2, (hB.cell (p := ⟨b, off + 3, none⟩) hb).trans h3, (hB.cell (p := ⟨b, off + 4, none⟩) hb).trans h4, h5.on hB, h6.on hB, h7⟩
set_option maxRecDepth 100000 in
theorem Bk.sets {w : World} {g b j : Nat} {l : List Int} {vs : List Value} (h : Bk w g l) (hg : ¬ g = b) : Bk (w.setCells b j vs) g l := (World.heap_setCells_other _ _ _ _ (lt_some h) (by omega)).trans h
set_option maxRecDepth 100000 in
theorem DAt.put {w : World} {B b N i j : Nat} {c : Cl} {vs : List Value} (h : DAt w B b (i * 5) c) (hr : RowC w b N) (hij : i < j) : DAt (w.setCells b (j * 5) vs) B b (i * 5) c := by
  obtain ⟨g1, g2, h0, h1, h2, h3, h4, h5, h6, h7⟩ := h
  have ho : ∀ d, d < 5 → (w.setCells b (j * 5) vs).cell? ⟨b, i * 5 + d, none⟩ = w.cell? ⟨b, i * 5 + d, none⟩ := fun d hd => World.cell?_setCells_out b _ _ w _ (fun _ _ => .inl (by simp only; omega))
  exact ⟨g1, g2, (ho 0 (by omega)).trans h0, (ho 1 (by omega)).trans h1, (ho 2 (by omega)).trans h2, (ho 3 (by omega)).trans h3, (ho 4 (by omega)).trans h4, h5.sets (hr.ne h5), h6.sets (hr.ne h6), h7⟩
set_option maxRecDepth 100000 in
theorem DAt.new {w : World} {B b N j : Nat} {c : Cl} {g1 g2 : Nat} (hr : RowC w b N) (hj : j * 5 + 5 ≤ 5 * N) (h1 : Bk w g1 c.key) (h2 : Bk w g2 c.val) (h3 : B ≤ g1) (h4 : B ≤ g2) :
    DAt (w.setCells b (j * 5) [.slice (some ⟨g1, 0, none⟩) c.key.length c.key.length, .int .i64 c.kd, .slice (some ⟨g2, 0, none⟩) c.val.length c.val.length, .int .i64 c.pg, .int .i64 c.ct]) B b (j * 5) c := by
  have h := World.rangeAt_setCells_same w b (j * 5) [.slice (some ⟨g1, 0, none⟩) c.key.length c.key.length, .int .i64 c.kd, .slice (some ⟨g2, 0, none⟩) c.val.length c.val.length, .int .i64 c.pg, .int .i64 c.ct] (hr.there hj)
  exact ⟨g1, g2, h 0 _ rfl, h 1 _ rfl, h 2 _ rfl, h 3 _ rfl, h 4 _ rfl, h1.sets (hr.ne h1), h2.sets (hr.ne h2), h3, h4⟩
set_option maxRecDepth 100000 in
theorem DAt.cat {w : World} {B b off : Nat} {c : Cl} (h : DAt w B b off c) (hw : c.Wf) (h1 : c.key.length ≤ 140737488355328) (h2 : c.val.length ≤ 140737488355328) : CAt w b off c := by
  obtain ⟨g1, g2, e0, e1, e2, e3, e4, e5, e6, _⟩ := h
  exact ⟨_, _, _, _, e0, e1, e2, e3, e4, e5.sl rfl hw.1 h1, e6.sl rfl hw.2 h2⟩
set_option maxRecDepth 100000 in
theorem infoC : (Tryz.prog.info? 47).map (fun i => (i.zero, i.size, i.bytes)) = some (some (.agg #[.slice none 0 0, .int .i64 0, .slice none 0 0, .int .i64 0, .int .i64 0]), 5, 72) := by kernel_rfl
set_option maxRecDepth 100000 in
/-- A cell of a slice of cells. -/
theorem SlC.item {w : World} {ao : Option Addr} {n cap : Nat} {cs : List Cl} (h : SlC w ao n cap cs) (i : Nat) (hi : i < n) : ∃ b off c ka kc va vc, ao = some ⟨b, off, none⟩ ∧ b < w.heap.size ∧ cs[i]? = some c ∧
    w.cell? ⟨b, off + i * 5, none⟩ = some (.slice ka c.key.length kc) ∧ w.cell? ⟨b, off + i * 5 + 1, none⟩ = some (.int .i64 c.kd) ∧ w.cell? ⟨b, off + i * 5 + 2, none⟩ = some (.slice va c.val.length vc) ∧ w.cell? ⟨b, off + i * 5 + 3, none⟩ = some (.int .i64 c.pg) ∧ w.cell? ⟨b, off + i * 5 + 4, none⟩ = some (.int .i64 c.ct) ∧ Sl w ka c.key.length kc c.key ∧ Sl w va c.val.length vc c.val := by
  have hl := h.hlen
  rcases h.hat with h0 | ⟨b, off, e, hb, hc⟩
  · omega
  · obtain ⟨c, hci⟩ : ∃ c, cs[i]? = some c := ⟨_, List.getElem?_eq_getElem (by omega)⟩
    obtain ⟨ka, kc, va, vc, h0⟩ := hc i c hci
    exact ⟨b, off, c, ka, kc, va, vc, e, hb, hci, h0⟩

set_option maxRecDepth 100000 in
/-- One cell in a slice of its own. -/
theorem slc_one {u : World} {ka va : Option Addr} {kn kc vn vc : Nat} {kd pg ct : Int} {key val : List Int} (hk : Sl u ka kn kc key) (hv : Sl u va vn vc val) :
    SlC (u.alloc (.cells #[.slice ka kn kc, .int .i64 kd, .slice va vn vc, .int .i64 pg, .int .i64 ct] 47)) (some ⟨u.heap.size, 0, none⟩) 1 1 [⟨key, kd, val, pg, ct⟩] := by
  have hb : Below u.heap.size u (u.alloc (.cells #[.slice ka kn kc, .int .i64 kd, .slice va vn vc, .int .i64 pg, .int .i64 ct] 47)) := bl_al (Below.refl _ _) (Nat.le_refl _) _
  have hb5 := C5.box u (.slice ka kn kc) (.int .i64 kd) (.slice va vn vc) (.int .i64 pg) (.int .i64 ct)
  obtain ⟨e0, e1, e2, e3, e4⟩ := hb5.cells
  refine ⟨rfl, Nat.le_refl _, by omega, (by intro h; cases h), .inr ⟨u.heap.size, 0, rfl, lt_some hb5, fun i c hc => ?_⟩⟩
  have hi : i = 0 := by have := (List.getElem?_eq_some_iff.1 hc).1; simpa using this
  subst hi
  simp only [List.getElem?_cons_zero, Option.some.injEq] at hc
  subst hc
  refine ⟨ka, kc, va, vc, ?_, e1, ?_, e3, e4, ?_, ?_⟩
  · rw [hk.hlen]; exact e0
  · rw [hv.hlen]; exact e2
  · rw [hk.hlen]; exact hk.on (Nat.le_refl _) hb
  · rw [hv.hlen]; exact hv.on (Nat.le_refl _) hb
set_option maxRecDepth 100000 in
theorem conv6H (w : World) (C : Array Value) (n c H : Nat) (hH : w.heap.size = H) : (convert 26 26 (.slice (some ⟨H, 0, none⟩) n c)).run Tryz.prog (w.alloc (.cells C 5)) = .ok (.slice (some ⟨H, 0, none⟩) n c) (w.alloc (.cells C 5 (C.size, C.size + 1))) := by
  subst hH
  exact Lib.run_convert_bytes_const (P := Tryz.prog) w 26 5 C n c Tryz.underlying26 Tryz.underlying5
/-- Values that are cells. -/
def Row5 (w : World) : List Value → List Cl → Prop
  | vs, [] => vs = []
  | vs, c :: r => ∃ ka kc va vc t, vs = .slice ka c.key.length kc :: .int .i64 c.kd :: .slice va c.val.length vc :: .int .i64 c.pg :: .int .i64 c.ct :: t ∧ Sl w ka c.key.length kc c.key ∧ Sl w va c.val.length vc c.val ∧ Row5 w t r
set_option maxRecDepth 100000 in
theorem Row5.append {w : World} {us : List Value} {ds : List Cl} (g : Row5 w us ds) : ∀ {vs : List Value} {cs : List Cl}, Row5 w vs cs → Row5 w (vs ++ us) (cs ++ ds)
  | vs, [], h => by
    unfold Row5 at h
    subst h
    exact g
  | vs, c :: r, h => by
    obtain ⟨ka, kc, va, vc, t, rfl, h1, h2, h3⟩ := h
    exact ⟨ka, kc, va, vc, t ++ us, rfl, h1, h2, Row5.append g h3⟩
set_option maxRecDepth 100000 in
theorem Row5.len {w : World} : ∀ {vs : List Value} {cs : List Cl}, Row5 w vs cs → vs.length = cs.length * 5
  | vs, [], h => by
    unfold Row5 at h
    subst h
    rfl
  | vs, c :: r, h => by
    obtain ⟨ka, kc, va, vc, t, rfl, h1, h2, h3⟩ := h
    have := h3.len
    simp only [List.length_cons]
    omega
set_option maxRecDepth 100000 in
theorem Row5.one {w : World} : ∀ {vs : List Value} {cs : List Cl}, Row5 w vs cs → ∀ u ∈ vs, u.oneCell' = true
  | vs, [], h, u, hu => by
    unfold Row5 at h
    subst h
    cases hu
  | vs, c :: r, h, u, hu => by
    obtain ⟨ka, kc, va, vc, t, rfl, h1, h2, h3⟩ := h
    simp only [List.mem_cons] at hu
    rcases hu with rfl | rfl | rfl | rfl | rfl | hu
    · rfl
    · rfl
    · rfl
    · rfl
    · rfl
    · exact h3.one u hu
set_option maxRecDepth 100000 in
theorem Row5.cat {w w' : World} {b : Nat} (hB : Below w.heap.size w w') : ∀ {vs : List Value} {cs : List Cl} (off : Nat), Row5 w vs cs → (∀ j u, vs[j]? = some u → w'.cell? ⟨b, off + j, none⟩ = some u) → ∀ i c, cs[i]? = some c → CAt w' b (off + i * 5) c
  | vs, [], off, h, hc, i, c, hi => by simp at hi
  | vs, d :: r, off, h, hc, 0, c, hi => by
    obtain ⟨ka, kc, va, vc, t, rfl, h1, h2, h3⟩ := h
    simp at hi
    subst hi
    exact ⟨ka, kc, va, vc, hc 0 _ rfl, hc 1 _ rfl, hc 2 _ rfl, hc 3 _ rfl, hc 4 _ rfl, h1.on (Nat.le_refl _) hB, h2.on (Nat.le_refl _) hB⟩
  | vs, d :: r, off, h, hc, i + 1, c, hi => by
    obtain ⟨ka, kc, va, vc, t, rfl, h1, h2, h3⟩ := h
    have := Row5.cat hB (off + 5) h3 (fun j u hu => by
      have := hc (j + 5) u (by simpa using hu)
      rwa [show off + (j + 5) = off + 5 + j by omega] at this) i c (by simpa using hi)
    rwa [show off + 5 + i * 5 = off + (i + 1) * 5 by omega] at this
set_option maxRecDepth 100000 in
theorem row5_of {w : World} {b : Nat} : ∀ (cs : List Cl) (off : Nat), (∀ i c, cs[i]? = some c → CAt w b (off + i * 5) c) → ∃ vs, Row5 w vs cs ∧ ∀ j u, vs[j]? = some u → w.cell? ⟨b, off + j, none⟩ = some u
  | [], off, _ => ⟨[], rfl, fun j u hu => by simp at hu⟩
  | c :: r, off, h => by
    obtain ⟨t, h1, h2⟩ := row5_of r (off + 5) fun i d hd => by
      have := h (i + 1) d (by simpa using hd)
      rwa [show off + (i + 1) * 5 = off + 5 + i * 5 by omega] at this
    obtain ⟨ka, kc, va, vc, c0, c1, c2, c3, c4, hk, hv⟩ := h 0 c rfl
    refine ⟨_, ⟨ka, kc, va, vc, t, rfl, hk, hv, h1⟩, fun j u hu => ?_⟩
    match j, hu with
    | 0, hu => simp at hu; subst hu; simpa using c0
    | 1, hu => simp at hu; subst hu; simpa using c1
    | 2, hu => simp at hu; subst hu; simpa using c2
    | 3, hu => simp at hu; subst hu; simpa using c3
    | 4, hu => simp at hu; subst hu; simpa using c4
    | j + 5, hu =>
      have := h2 j u (by simpa using hu)
      rwa [show off + 5 + j = off + (j + 5) by omega] at this

/-- THE SLICE VALUE v OWNS THE CELLS cs; their keys and values are w0's. -/
def OwnK (w0 w : World) (v : Value) (cs : List Cl) : Prop := ∃ vs, w.ownsRow w0.heap.size 47 5 v cs.length vs ∧ Row5 w0 vs cs
set_option maxRecDepth 100000 in
theorem OwnK.nil (w0 w : World) : OwnK w0 w (.slice none 0 0) [] := ⟨[], World.ownsRow_nil _ _ _ _, rfl⟩
set_option maxRecDepth 100000 in
theorem OwnK.go {w0 w w' : World} {v : Value} {cs : List Cl} (h : OwnK w0 w v cs) (hb : Below w.heap.size w w') : OwnK w0 w' v cs := by
  obtain ⟨vs, h1, h2⟩ := h
  refine ⟨vs, World.ownsRow.kept (row := none) h1 ⟨hb.os, hb.tape, hb.output, hb.size, fun k hk _ => hb.block k hk⟩ ?_, h2⟩
  cases hv : v.ownBlock with
  | none => exact .inl rfl
  | some k => exact .inr (by simp)
set_option maxRecDepth 100000 in
theorem OwnK.slc {w0 w : World} {v : Value} {cs : List Cl} (h : OwnK w0 w v cs) (hb : Below w0.heap.size w0 w) (hl : cs.length ≤ 1000) : ∃ ao cap, v = .slice ao cs.length cap ∧ SlC w ao cs.length cap cs := by
  obtain ⟨vs, h1, h2⟩ := h
  rcases h1.2 with ⟨rfl, h0⟩ | ⟨g, cap, cur, rfl, hg, hh, hnc, hm, hs, ht⟩
  · rw [h0]
    exact ⟨none, 0, rfl, ⟨h0, Nat.le_refl _, by omega, fun _ => rfl, .inl rfl⟩⟩
  · refine ⟨_, cap, rfl, ⟨rfl, hnc, by omega, (by intro h; cases h), .inr ⟨g, 0, rfl, lt_some hh, ?_⟩⟩⟩
    exact Row5.cat hb 0 h2 (fun j u hu => by
      have := World.ownsRow.cells h1 (g := g) rfl j u hu
      simpa [Addr.add_lit] using this)
set_option maxRecDepth 100000 in
/-- 'append(m, x...)', m the call's own or nil, x some cells. -/
theorem app_ck {ops : Array Oper} {rest : List Oper} {o : Oper} {a : Act} {Q : Exit → Act → World → Prop} (w0 w : World) (hgd : o.guard = none) (s x : Operand)
    (ho : o.op = .call { callee := .builtin .append, args := #[s, x], argTypes := #[22, 22] }) (cs ds : List Cl) (v : Value) (ao : Option Addr) (n c : Nat) (hs : a.eval s = v) (hx : a.eval x = .slice ao n c)
    (hown : OwnK w0 w v cs) (hn : ds.length = n) (hsl : (ao = none ∧ n = 0 ∧ c = 0) ∨ ∃ b off us, ao = some ⟨b, off, none⟩ ∧ Row5 w0 us ds ∧ ∀ j u, us[j]? = some u → w.cell? ⟨b, off + j, none⟩ = some u) (hb : cs.length + n ≤ 1000) (hbase : Below w0.heap.size w0 w)
    (h : ∀ v' w', Hid (OwnK w0 w' v' (cs ++ ds)) → Hid (Below w0.heap.size w0 w') → wpList Tryz.prog ops Q rest (a.put o.dst v') w') : wpList Tryz.prog ops Q (o :: rest) a w := by
  obtain ⟨i0, hi, hz0, hz1, hz2⟩ := info_parts infoC
  obtain ⟨vs, h1, h2⟩ := hown
  rcases hsl with ⟨rfl, rfl, rfl⟩ | ⟨b, off, us, rfl, hr, hc⟩
  · obtain rfl : ds = [] := List.eq_nil_of_length_eq_zero hn
    exact wpList_append_own_none hgd s x 22 ho w0.heap.size 47 i0 5 Tryz.underlying22 hi v cs.length vs hs h1 hx (h v w (hidden ⟨vs, by simpa using h1, by simpa using h2⟩) (hidden hbase))
  · refine wpList_append_own_at w hgd s x 22 ho w0.heap.size 47 i0 _ 5 72 Tryz.underlying22 hi hz0 hz1 hz2 rfl (by decide) v cs.length vs hs h1 ⟨b, off, none⟩ n c us hx (by rw [hr.len, hn])
      (fun j u hu => by
        rw [Addr.add_lit]
        exact hc j u hu) hr.one (by unfold maxLen; omega) (by omega) hbase.size ?_
    intro v' w' g1 g2 _ _
    refine h v' w' (hidden ⟨vs ++ us, ?_, Row5.append hr h2⟩) (hidden ?_)
    · rw [List.length_append, hn]
      exact g1
    · exact hbase.trans (own_below h1 hbase.size g2)
set_option maxRecDepth 100000 in
/-- A piece of a slice of cells. -/
theorem SlC.piece {w : World} {b off n cap : Nat} {cs : List Cl} (h : SlC w (some ⟨b, off, none⟩) n cap cs) (i k c : Nat) (hk : i + k ≤ n) (hc : k ≤ c) : SlC w (some ⟨b, off + i * 5, none⟩) k c ((cs.drop i).take k) := by
  have hl := h.hlen
  refine ⟨by rw [List.length_take, List.length_drop]; omega, hc, by have := h.hroom; omega, (by intro h; cases h), ?_⟩
  rcases h.hat with h0 | ⟨b', off', e, hb, hcs⟩
  · exact .inl (by omega)
  · injection e with e
    injection e with e1 e2
    subst e1 e2
    refine .inr ⟨b, off + i * 5, rfl, hb, fun j c hj => ?_⟩
    have hjl := (List.getElem?_eq_some_iff.1 hj).1
    rw [List.length_take, List.length_drop] at hjl
    rw [List.getElem?_take_of_lt (by omega), List.getElem?_drop] at hj
    have := hcs (i + j) c hj
    rwa [show off + (i + j) * 5 = off + i * 5 + j * 5 by omega] at this
set_option maxRecDepth 100000 in
/-- What a slice of cells is made of. -/
theorem SlC.src {w0 : World} {b off n cap : Nat} {cs : List Cl} (h : SlC w0 (some ⟨b, off, none⟩) n cap cs) {w : World} (hb : Below w0.heap.size w0 w) : ∃ us, Row5 w0 us cs ∧ ∀ j u, us[j]? = some u → w.cell? ⟨b, off + j, none⟩ = some u := by
  rcases h.hat with h0 | ⟨b', off', e, hlt, hcs⟩
  · obtain rfl : cs = [] := List.eq_nil_of_length_eq_zero (by rw [h.hlen, h0])
    exact ⟨[], rfl, fun j u hu => by simp at hu⟩
  · injection e with e
    injection e with e1 e2
    subst e1 e2
    obtain ⟨us, h1, h2⟩ := row5_of cs off hcs
    exact ⟨us, h1, fun j u hu => (hb.cell (p := ⟨b, off + j, none⟩) hlt).trans (h2 j u hu)⟩

set_option maxRecDepth 100000 in
theorem dec_slc {w' : World} {B g : Nat} {cs : List Cl} (hr : RowC w' g cs.length) (hd : ∀ i d, cs[i]? = some d → DAt w' B g (i * 5) d) (hwf : ∀ d ∈ cs, d.Wf) (hfit : ∀ d ∈ cs, d.fit) (hl : cs.length ≤ 65536) : SlC w' (some ⟨g, 0, none⟩) cs.length cs.length cs := by
  refine ⟨rfl, Nat.le_refl _, by omega, (by intro h; cases h), .inr ⟨g, 0, rfl, hr.lt, fun i c hc => ?_⟩⟩
  have hm : c ∈ cs := List.mem_of_getElem? hc
  have h1 := (hfit c hm).key
  have h2 := (hfit c hm).val
  rw [Nat.zero_add]
  exact (hd i c hc).cat (hwf c hm) (by omega) (by omega)
end Go.Proofs.YtpjgmepafekhkaaGreatDoor

/- ink.Common, of any number of texts. -/

namespace Go.Proofs.YtpjgmepafekhkaaGreatDoor
open Go.RowKit

/-- What Common comes to. -/
def cmN : List (List Int) → Nat
  | [] => 0
  | t :: r => r.foldl (fun n x => lcp (t.take n) x) t.length

set_option maxRecDepth 100000 in
theorem common_nil (ao : Option Addr) (cap : Nat) (w : World) : Calls Tryz.prog 84 #[.slice ao 0 cap] w fun e w' => e = .returned (.int .i64 0) ∧ ∃ q, w' = w.drewN q := by
  go_enter Tryz.func84, Tryz.ntmps84
  go_wp2
  go_ret
  exact ⟨rfl, 0, rfl⟩

set_option maxRecDepth 100000 in
set_option maxHeartbeats 1000000 in
theorem common_any (ao : Option Addr) (n cap : Nat) (t : List Int) (ls : List (List Int)) (w : World) (hs : SlS w ao n cap (t :: ls)) :
    Calls Tryz.prog 84 #[.slice ao n cap] w fun e w' => e = .returned (.int .i64 (cmN (t :: ls))) ∧ ∃ q, w' = w.drewN q := by
  obtain ⟨hlen, hcap, hroom, hnil, hat⟩ := hs
  obtain ⟨N, rfl⟩ : ∃ N, n = N + 1 := ⟨n - 1, by simp at hlen; omega⟩
  have hlen' : ls.length = N := by simpa using hlen
  clear hlen
  rcases hat with h | ⟨b, off, rfl, hbb, hc⟩
  · omega
  obtain ⟨a0, m0, c0, hck0, hsl0⟩ := hc 0 (by omega)
  simp only [Nat.add_zero, List.getD_cons_zero] at hck0 hsl0
  have hm0 := hsl0.hlen
  have hr0 := hsl0.hroom
  have hcc0 := hsl0.hcap
  have HS0 := hidden hsl0
  have HC := hidden hc
  clear hsl0 hc
  show Calls Tryz.prog 84 #[.slice (some ⟨b, off, none⟩) (N + 1) cap] w fun e w' => e = .returned (.int .i64 ((ls.foldl (fun n x => lcp (t.take n) x) t.length : Nat) : Int)) ∧ ∃ q, w' = w.drewN q
  rw [hm0]
  generalize hF : ls.foldl (fun n x => lcp (t.take n) x) m0 = F
  have HF := hidden hF
  clear hF
  have hc1 : ((N : Int) + 1 == 0) = false := by simp; omega
  by_cases hcap1 : cap = 1
  · obtain rfl : N = 0 := by omega
    obtain rfl : ls = [] := List.eq_nil_of_length_eq_zero hlen'
    have e : m0 = F := HF.out
    subst e
    clear HF HC
    go_enter Tryz.func84, Tryz.ntmps84
    go_wp2_with fail
    refine wp_loop_rounds 1 ?_
    rw [rounds_succ]
    go_wp2
    go_ret
    exact ⟨rfl, 0, rfl⟩
  · go_enter Tryz.func84, Tryz.ntmps84
    go_wp2_with fail
    go_loopw [3, 16] (fun v i wr => ∃ (k q y : Nat), k ≤ N ∧ y ≤ m0 ∧ i = .int .i64 k ∧ v = .int .i64 y ∧ Hid ((ls.drop k).foldl (fun n x => lcp (t.take n) x) y = F) ∧ wr = w.drewN q) (fun _ i _ => N - (intOf i).toNat)
    case atStart => exact ⟨0, 0, m0, by omega, by omega, rfl, rfl, HF, rfl⟩
    case round =>
      obtain ⟨k, q, y, hk, hy, rfl, rfl, HK, rfl⟩ := hrel
      clear HF
      by_cases hlt : k < N
      · obtain ⟨a, m, c, hck, hsl⟩ := HC.out (k + 1) (by omega)
        have hck' : w.cell? ⟨b, off + 1 + k, none⟩ = some (.slice a m c) := by rw [show off + 1 + k = off + (k + 1) by omega]; exact hck
        rw [show (t :: ls).getD (k + 1) [] = ls.getD k [] by simp [List.getD]] at hsl
        have e := HK.out
        rw [dropS ls k (by omega), List.foldl_cons] at e
        have hle := (lcp_le (t.take y) (ls.getD k [])).1
        have hty : (t.take y).length ≤ y := by simp; omega
        have hal2 := alike_any a0 a y m c0 c (t.take y) (ls.getD k []) (w.drewN q) ((HS0.out.take y hy).drewN q) (hsl.drewN q)
        generalize lcp (t.take y) (ls.getD k []) = y2 at *
        have HE := hidden e
        have HA := hidden hal2
        clear hal2 e HK hck
        go_wp2_with fail
        refine quiet_call' HA.out ?_
        intro q2
        go_wp2
        go_roundw
        case rel => exact ⟨k + 1, _, y2, by omega, by omega, by go_num, rfl, HE, rfl⟩
        case measure => simp [intOf]; omega
      · have e : y = F := by rw [← HK.out, List.drop_eq_nil_of_le (by omega)]; rfl
        have HE := hidden e
        clear e HK
        go_wp2
        go_ret
        exact ⟨ret_int (by rw [HE.out]), _, rfl⟩

end Go.Proofs.YtpjgmepafekhkaaGreatDoor

/- packed.alike and packed.Size. -/

namespace Go.Proofs.YtpjgmepafekhkaaGreatDoor
open Go.RowKit

set_option maxRecDepth 100000 in
theorem shn_take (a : List Int) : ∀ (r : List Cl) (j : Nat) (d : Cl), r[j]? = some d → shn a (r.take (j + 1)) = min (shn a (r.take j)) (lcp a d.key)
  | [], j, d, h => by simp at h
  | e :: r, 0, d, h => by
    simp at h
    subst h
    have := (lcp_le a e.key).1
    simp only [List.take_succ_cons, List.take_zero, shn]
    omega
  | e :: r, j + 1, d, h => by
    have ih := shn_take a r j d (by simpa using h)
    simp only [List.take_succ_cons, shn]
    rw [ih]
    omega
set_option maxRecDepth 100000 in
theorem cmN_two (t x : List Int) : cmN [t, x] = lcp t x := by
  unfold cmN
  simp
set_option maxRecDepth 100000 in
theorem sls_two {w : World} {g : Nat} {a1 a2 : Option Addr} {n1 c1 n2 c2 : Nat} {l1 l2 : List Int} (hg : w.heap[g]? = some (.cells #[.slice a1 n1 c1, .slice a2 n2 c2] 26 (0, 0))) (h1 : Sl w a1 n1 c1 l1) (h2 : Sl w a2 n2 c2 l2) : SlS w (some ⟨g, 0, none⟩) 2 2 [l1, l2] := by
  refine ⟨rfl, Nat.le_refl _, by omega, (by intro h; cases h), .inr ⟨g, 0, rfl, lt_some hg, fun i hi => ?_⟩⟩
  have hi' : i = 0 ∨ i = 1 := by omega
  rcases hi' with rfl | rfl
  · exact ⟨a1, n1, c1, by rw [cell_of_row _ _ _ _ _ _ hg]; rfl, h1⟩
  · exact ⟨a2, n2, c2, by rw [cell_of_row _ _ _ _ _ _ hg]; rfl, h2⟩

set_option maxRecDepth 100000 in
set_option maxHeartbeats 2000000 in
theorem palike_any (k : Int) (ao : Option Addr) (n cap : Nat) (cs : List Cl) (w : World) (hs : SlC w ao n cap cs) :
    Calls Tryz.prog 53 #[.int .i64 k, .slice ao n cap] w fun e w' => e = .returned (.int .i64 ((shP k cs).length : Int)) ∧ Hid (Below w.heap.size w w') := by
  have hn := hs.hroom
  have hcap := hs.hcap
  have hlen := hs.hlen
  by_cases h0 : n = 0
  · subst h0
    obtain rfl : cs = [] := List.eq_nil_of_length_eq_zero hlen
    have hz : (shP k []).length = 0 := by unfold shP ktl; split <;> rfl
    rw [hz]
    clear hs
    go_enter Tryz.func53, Tryz.ntmps53
    go_wp2
    go_ret
    exact ⟨rfl, hidden (Below.refl _ _)⟩
  · have hn0 : 0 < n := by omega
    have hnI : 0 < (n : Int) := by omega
    have d0 : ((n : Int) == 0) = false := by simp; omega
    obtain ⟨b, off, rfl⟩ : ∃ b off, ao = some ⟨b, off, none⟩ := by
      rcases hs.hat with h | ⟨b, off, e, _⟩
      · exact absurd h h0
      · exact ⟨b, off, e⟩
    by_cases hk : k = 3
    · have hd : decide (k = 3 ∧ (0 : Int) = 0) = true := by simp [hk]
      have HSW : Hid (∀ u, Calls Tryz.prog 54 #[.int .i64 k, .int .i64 0] u fun e w' => e = .returned (.bool true) ∧ w' = u) := hidden (fun u => by have := standsWhole_any k 0 u; rwa [hd] at this)
      clear hd
      have hkt : ktl k cs = cs.drop 1 := by unfold ktl; rw [if_pos hk, List.drop_one]
      clear hk
      unfold shP
      rw [hkt]
      by_cases h1 : n = 1
      · subst h1
        have hz : (shr (cs.drop 1)).length = 0 := by rw [List.drop_eq_nil_of_le (by omega)]; rfl
        rw [hz]
        have hc1 : (1 : Int) ≤ (cap : Int) := by omega
        clear hs
        by_cases hcc : cap = 1
        · subst hcc
          go_enter Tryz.func53, Tryz.ntmps53
          go_wp2_with (first | (go_at_call 54; refine same_call (HSW.out _) ?_))
          go_ret
          exact ⟨rfl, hidden (Below.refl _ _)⟩
        · have hcc2 : 1 < cap := by omega
          have hcc3 : cap - 1 ≠ 0 := by omega
          go_enter Tryz.func53, Tryz.ntmps53
          go_wp2_with (first | (go_at_call 54; refine same_call (HSW.out _) ?_))
          go_ret
          exact ⟨rfl, hidden (Below.refl _ _)⟩
      · have h2 := hs.piece 1 (n - 1) (cap - 1) (by omega) (by omega)
        have e2 : (cs.drop 1).take (n - 1) = cs.drop 1 := List.take_of_length_le (by rw [List.length_drop]; omega)
        rw [e2, Nat.one_mul] at h2
        generalize cs.drop 1 = ds at *
        have hc1 : (1 : Int) ≤ (cap : Int) := by omega
        have hcc3 : cap - 1 ≠ 0 := by omega
        have hcc4 : 1 < cap := by omega
        have hn3 : (1 : Int) ≤ (n : Int) := by omega
        have hn4 : 1 ≤ n := by omega
        obtain ⟨n', hn'⟩ : ∃ n', n - 1 = n' := ⟨_, rfl⟩
        obtain ⟨cap', hcap'⟩ : ∃ c', cap - 1 = c' := ⟨_, rfl⟩
        obtain ⟨off', hoff'⟩ : ∃ o', off + 5 = o' := ⟨_, rfl⟩
        rw [hn', hcap', hoff'] at h2
        have hnn : (n : Int) - 1 = (n' : Int) := by omega
        have hn0' : 0 < n' := by omega
        have hnI' : 0 < (n' : Int) := by omega
        have d0' : ((n' : Int) == 0) = false := by simp; omega
        clear hs hlen hkt e2
        have HSC := hidden h2
        obtain ⟨b1, off1, c, ka, kc, va, vc, hbo, hbl, hci, c0, c1, c2, c3, c4, hkS, hvS⟩ := h2.item 0 hn0'
        injection hbo with hbo
        injection hbo with hb1 hb2
        subst hb1 hb2
        simp only [Nat.zero_mul, Nat.add_zero] at c0
        obtain ⟨r, hds⟩ : ∃ r, ds = c :: r := by
          match ds, hci with
          | x :: r, hci => simp at hci; subst hci; exact ⟨r, rfl⟩
        have HKS := hidden hkS
        have hklr := hkS.hroom
        have hkcr := hkS.hcap
        have hll := h2.hlen
        rw [hds] at hll
        simp only [List.length_cons] at hll
        have HEND : Hid ((shr ds).length = shn c.key r) := hidden (by
          rw [hds]
          unfold shr
          rw [List.length_take]
          have := shn_le c.key r
          omega)
        have HR : Hid (∀ j u, j < n' - 1 → Below w.heap.size w u → ∃ d da dc dva dvc, r[j]? = some d ∧ u.cell? ⟨b, off' + 5 + j * 5, none⟩ = some (.slice da d.key.length dc) ∧ u.cell? ⟨b, off' + 5 + j * 5 + 1, none⟩ = some (.int .i64 d.kd) ∧ u.cell? ⟨b, off' + 5 + j * 5 + 2, none⟩ = some (.slice dva d.val.length dvc) ∧ u.cell? ⟨b, off' + 5 + j * 5 + 3, none⟩ = some (.int .i64 d.pg) ∧ u.cell? ⟨b, off' + 5 + j * 5 + 4, none⟩ = some (.int .i64 d.ct) ∧ Sl u da d.key.length dc d.key) := hidden (by
          intro j u hj hu
          obtain ⟨b2, off2, d, da, dc, dva, dvc, hbo2, _, hdi, e0, e1, e2, e3, e4, hdk, _⟩ := (HSC.out.on hu).item (j + 1) (by omega)
          injection hbo2 with hbo2
          injection hbo2 with g1 g2
          subst g1 g2
          rw [hds] at hdi
          rw [show off' + (j + 1) * 5 = off' + 5 + j * 5 by omega] at e0 e1 e2 e3 e4
          exact ⟨d, da, dc, dva, dvc, by simpa using hdi, e0, e1, e2, e3, e4, hdk⟩)
        have HLR : Hid (r.length = n' - 1) := hidden (by omega)
        obtain ⟨M, hM⟩ : ∃ M, n' - 1 = M := ⟨_, rfl⟩
        rw [hM] at HR HLR
        have hMI : (n' : Int) - 1 = (M : Int) := by omega
        have hMb : (M : Int) ≤ 140737488355328 := by omega
        rw [HEND.out]
        have cN1 : (1 : Int) ≤ (n' : Int) := by omega
        have cC1 : (1 : Int) ≤ (cap' : Int) := by omega
        have HSH0 : Hid (shn c.key (r.take 0) = c.key.length) := hidden (by simp [shn])
        clear h2 hkS hvS hci c1 c2 c3 c4 hds hll
        by_cases hcc : cap' = 1
        · have hN1 : n' = 1 := by omega
          obtain rfl : M = 0 := by omega
          have hr0 : r = [] := List.eq_nil_of_length_eq_zero HLR.out
          have HFIN : Hid (shn c.key r = c.key.length) := hidden (by rw [hr0]; rfl)
          clear hr0
          rw [HFIN.out]
          subst hcc hN1
          go_enter Tryz.func53, Tryz.ntmps53
          go_wp2_with (first | (go_at_call 54; refine same_call (HSW.out _) ?_))
          go_loopw [5, 27] (fun sh i wr => sh = .slice ka c.key.length kc ∧ i = .int .i64 0 ∧ wr = w) (fun _ _ _ => 0)
          case atStart => exact ⟨rfl, rfl, rfl⟩
          case round =>
            obtain ⟨rfl, rfl, rfl⟩ := hrel
            go_wp2
            go_ret
            exact ⟨rfl, hidden (Below.refl _ _)⟩
        · have hcc1 : 1 < cap' := by omega
          have hcc2 : cap' - 1 ≠ 0 := by omega
          go_enter Tryz.func53, Tryz.ntmps53
          go_wp2_with (first | (go_at_call 54; refine same_call (HSW.out _) ?_))
          go_loopw [5, 27] (fun sh i wr => ∃ j p : Nat, j ≤ M ∧ p ≤ c.key.length ∧ i = .int .i64 j ∧ sh = .slice ka p kc ∧ Hid (p = shn c.key (r.take j)) ∧ Hid (Below w.heap.size w wr)) (fun _ i _ => M - (intOf i).toNat)
          case atStart => exact ⟨0, c.key.length, by omega, by omega, rfl, rfl, hidden HSH0.out.symm, hidden (Below.refl _ _)⟩
          case round =>
            obtain ⟨j, p, hj, hp, rfl, rfl, HP, HB⟩ := hrel
            have bj : (j : Int) ≤ 140737488355328 := by omega
            have bp : (p : Int) ≤ 140737488355328 := by omega
            by_cases hlt : j < M
            · have hltI : (j : Int) < (M : Int) := by omega
              obtain ⟨d, da, dc, dva, dvc, hdi, e0, e1, e2, e3, e4, hdk⟩ := HR.out j wr hlt HB.out
              have HDI := hidden hdi
              obtain ⟨x, hx⟩ : ∃ x, (wr.alloc (.cells #[.slice da d.key.length dc, .int .i64 d.kd, .slice dva d.val.length dvc, .int .i64 d.pg, .int .i64 d.ct] 47)).alloc (.cells #[.slice ka p kc, .slice da d.key.length dc] 26) = x := ⟨_, rfl⟩
              have hbx : Below wr.heap.size wr x := by rw [← hx]; exact bl_al (bl_al (Below.refl _ _) (Nat.le_refl _) _) (Nat.le_refl _) _
              have hg : x.heap[wr.heap.size + 1]? = some (.cells #[.slice ka p kc, .slice da d.key.length dc] 26 (0, 0)) := by
                have h1 := heap_alloc_last (wr.alloc (.cells #[.slice da d.key.length dc, .int .i64 d.kd, .slice dva d.val.length dvc, .int .i64 d.pg, .int .i64 d.ct] 47)) (.cells #[.slice ka p kc, .slice da d.key.length dc] 26)
                rw [hx] at h1
                simpa using h1
              have hsk : Sl x ka p kc (c.key.take p) := ((HKS.out.on (Nat.le_refl _) HB.out).on (Nat.le_refl _) hbx).take p (by omega)
              have HCM := hidden (common_any (some ⟨wr.heap.size + 1, 0, none⟩) 2 2 (c.key.take p) [d.key] x (sls_two hg hsk (hdk.on (Nat.le_refl _) hbx)))
              rw [cmN_two, lcp_take _ _ _ hp] at HCM
              have HNX := hidden (shn_take c.key r j d hdi)
              obtain ⟨q, hq⟩ : ∃ q, min p (lcp c.key d.key) = q := ⟨_, rfl⟩
              rw [hq] at HCM
              have hqp : q ≤ p := by omega
              have hqI : (q : Int) ≤ (p : Int) := by omega
              have hqc : (q : Int) ≤ (kc : Int) := by omega
              have HQ := hidden hq
              have HBX := hidden hbx
              clear hdk hdi hg hsk hbx hq
              go_wp2_with (first | (go_at_call 84; refine HCM.out.mono ?_; rintro e w2 ⟨rfl, q2, rfl⟩))
              go_roundw
              case rel => exact ⟨j + 1, q, by omega, by omega, by go_num, rfl, hidden (by rw [HNX.out, ← HP.out]; exact HQ.out.symm), hidden (bl_dr (bl_go HB.out (Nat.le_refl _) HBX.out) _)⟩
              case measure => simp [intOf]; omega
            · obtain rfl : j = M := by omega
              have hlI : ¬ (j : Int) < (j : Int) := by omega
              have HT : Hid (p = shn c.key r) := hidden (by rw [HP.out, List.take_of_length_le (by rw [HLR.out]; exact Nat.le_refl _)])
              go_wp2
              go_ret
              rw [← HT.out]
              exact ⟨rfl, HB⟩
    · have hd : decide (k = 3 ∧ (0 : Int) = 0) = false := by simp [hk]
      have HSW : Hid (∀ u, Calls Tryz.prog 54 #[.int .i64 k, .int .i64 0] u fun e w' => e = .returned (.bool false) ∧ w' = u) := hidden (fun u => by have := standsWhole_any k 0 u; rwa [hd] at this)
      clear hd
      have hkt : ktl k cs = cs := by unfold ktl; rw [if_neg hk]
      clear hk
      unfold shP
      rw [hkt]
      have h2 := hs
      clear hkt
      have HSC := hidden h2
      obtain ⟨b1, off1, c, ka, kc, va, vc, hbo, hbl, hci, c0, c1, c2, c3, c4, hkS, hvS⟩ := h2.item 0 hn0
      injection hbo with hbo
      injection hbo with hb1 hb2
      subst hb1 hb2
      simp only [Nat.zero_mul, Nat.add_zero] at c0
      obtain ⟨r, hds⟩ : ∃ r, cs = c :: r := by
        match cs, hci with
        | x :: r, hci => simp at hci; subst hci; exact ⟨r, rfl⟩
      have HKS := hidden hkS
      have hklr := hkS.hroom
      have hkcr := hkS.hcap
      have hll := h2.hlen
      rw [hds] at hll
      simp only [List.length_cons] at hll
      have HEND : Hid ((shr cs).length = shn c.key r) := hidden (by
        rw [hds]
        unfold shr
        rw [List.length_take]
        have := shn_le c.key r
        omega)
      have HR : Hid (∀ j u, j < n - 1 → Below w.heap.size w u → ∃ d da dc dva dvc, r[j]? = some d ∧ u.cell? ⟨b, off + 5 + j * 5, none⟩ = some (.slice da d.key.length dc) ∧ u.cell? ⟨b, off + 5 + j * 5 + 1, none⟩ = some (.int .i64 d.kd) ∧ u.cell? ⟨b, off + 5 + j * 5 + 2, none⟩ = some (.slice dva d.val.length dvc) ∧ u.cell? ⟨b, off + 5 + j * 5 + 3, none⟩ = some (.int .i64 d.pg) ∧ u.cell? ⟨b, off + 5 + j * 5 + 4, none⟩ = some (.int .i64 d.ct) ∧ Sl u da d.key.length dc d.key) := hidden (by
        intro j u hj hu
        obtain ⟨b2, off2, d, da, dc, dva, dvc, hbo2, _, hdi, e0, e1, e2, e3, e4, hdk, _⟩ := (HSC.out.on hu).item (j + 1) (by omega)
        injection hbo2 with hbo2
        injection hbo2 with g1 g2
        subst g1 g2
        rw [hds] at hdi
        rw [show off + (j + 1) * 5 = off + 5 + j * 5 by omega] at e0 e1 e2 e3 e4
        exact ⟨d, da, dc, dva, dvc, by simpa using hdi, e0, e1, e2, e3, e4, hdk⟩)
      have HLR : Hid (r.length = n - 1) := hidden (by omega)
      obtain ⟨M, hM⟩ : ∃ M, n - 1 = M := ⟨_, rfl⟩
      rw [hM] at HR HLR
      have hMI : (n : Int) - 1 = (M : Int) := by omega
      have hMb : (M : Int) ≤ 140737488355328 := by omega
      rw [HEND.out]
      have cN1 : (1 : Int) ≤ (n : Int) := by omega
      have cC1 : (1 : Int) ≤ (cap : Int) := by omega
      have HSH0 : Hid (shn c.key (r.take 0) = c.key.length) := hidden (by simp [shn])
      clear h2 hkS hvS hci c1 c2 c3 c4 hds hll
      by_cases hcc : cap = 1
      · have hN1 : n = 1 := by omega
        obtain rfl : M = 0 := by omega
        have hr0 : r = [] := List.eq_nil_of_length_eq_zero HLR.out
        have HFIN : Hid (shn c.key r = c.key.length) := hidden (by rw [hr0]; rfl)
        clear hr0
        rw [HFIN.out]
        subst hcc hN1
        go_enter Tryz.func53, Tryz.ntmps53
        go_wp2_with (first | (go_at_call 54; refine same_call (HSW.out _) ?_))
        go_loopw [5, 27] (fun sh i wr => sh = .slice ka c.key.length kc ∧ i = .int .i64 0 ∧ wr = w) (fun _ _ _ => 0)
        case atStart => exact ⟨rfl, rfl, rfl⟩
        case round =>
          obtain ⟨rfl, rfl, rfl⟩ := hrel
          go_wp2
          go_ret
          exact ⟨rfl, hidden (Below.refl _ _)⟩
      · have hcc1 : 1 < cap := by omega
        have hcc2 : cap - 1 ≠ 0 := by omega
        go_enter Tryz.func53, Tryz.ntmps53
        go_wp2_with (first | (go_at_call 54; refine same_call (HSW.out _) ?_))
        go_loopw [5, 27] (fun sh i wr => ∃ j p : Nat, j ≤ M ∧ p ≤ c.key.length ∧ i = .int .i64 j ∧ sh = .slice ka p kc ∧ Hid (p = shn c.key (r.take j)) ∧ Hid (Below w.heap.size w wr)) (fun _ i _ => M - (intOf i).toNat)
        case atStart => exact ⟨0, c.key.length, by omega, by omega, rfl, rfl, hidden HSH0.out.symm, hidden (Below.refl _ _)⟩
        case round =>
          obtain ⟨j, p, hj, hp, rfl, rfl, HP, HB⟩ := hrel
          have bj : (j : Int) ≤ 140737488355328 := by omega
          have bp : (p : Int) ≤ 140737488355328 := by omega
          by_cases hlt : j < M
          · have hltI : (j : Int) < (M : Int) := by omega
            obtain ⟨d, da, dc, dva, dvc, hdi, e0, e1, e2, e3, e4, hdk⟩ := HR.out j wr hlt HB.out
            have HDI := hidden hdi
            obtain ⟨x, hx⟩ : ∃ x, (wr.alloc (.cells #[.slice da d.key.length dc, .int .i64 d.kd, .slice dva d.val.length dvc, .int .i64 d.pg, .int .i64 d.ct] 47)).alloc (.cells #[.slice ka p kc, .slice da d.key.length dc] 26) = x := ⟨_, rfl⟩
            have hbx : Below wr.heap.size wr x := by rw [← hx]; exact bl_al (bl_al (Below.refl _ _) (Nat.le_refl _) _) (Nat.le_refl _) _
            have hg : x.heap[wr.heap.size + 1]? = some (.cells #[.slice ka p kc, .slice da d.key.length dc] 26 (0, 0)) := by
              have h1 := heap_alloc_last (wr.alloc (.cells #[.slice da d.key.length dc, .int .i64 d.kd, .slice dva d.val.length dvc, .int .i64 d.pg, .int .i64 d.ct] 47)) (.cells #[.slice ka p kc, .slice da d.key.length dc] 26)
              rw [hx] at h1
              simpa using h1
            have hsk : Sl x ka p kc (c.key.take p) := ((HKS.out.on (Nat.le_refl _) HB.out).on (Nat.le_refl _) hbx).take p (by omega)
            have HCM := hidden (common_any (some ⟨wr.heap.size + 1, 0, none⟩) 2 2 (c.key.take p) [d.key] x (sls_two hg hsk (hdk.on (Nat.le_refl _) hbx)))
            rw [cmN_two, lcp_take _ _ _ hp] at HCM
            have HNX := hidden (shn_take c.key r j d hdi)
            obtain ⟨q, hq⟩ : ∃ q, min p (lcp c.key d.key) = q := ⟨_, rfl⟩
            rw [hq] at HCM
            have hqp : q ≤ p := by omega
            have hqI : (q : Int) ≤ (p : Int) := by omega
            have hqc : (q : Int) ≤ (kc : Int) := by omega
            have HQ := hidden hq
            have HBX := hidden hbx
            clear hdk hdi hg hsk hbx hq
            go_wp2_with (first | (go_at_call 84; refine HCM.out.mono ?_; rintro e w2 ⟨rfl, q2, rfl⟩))
            go_roundw
            case rel => exact ⟨j + 1, q, by omega, by omega, by go_num, rfl, hidden (by rw [HNX.out, ← HP.out]; exact HQ.out.symm), hidden (bl_dr (bl_go HB.out (Nat.le_refl _) HBX.out) _)⟩
            case measure => simp [intOf]; omega
          · obtain rfl : j = M := by omega
            have hlI : ¬ (j : Int) < (j : Int) := by omega
            have HT : Hid (p = shn c.key r) := hidden (by rw [HP.out, List.take_of_length_le (by rw [HLR.out]; exact Nat.le_refl _)])
            go_wp2
            go_ret
            rw [← HT.out]
            exact ⟨rfl, HB⟩

end Go.Proofs.YtpjgmepafekhkaaGreatDoor
