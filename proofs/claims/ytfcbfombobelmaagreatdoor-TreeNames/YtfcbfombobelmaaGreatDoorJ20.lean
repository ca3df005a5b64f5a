/- Rows of cells in memory; plain.Decode. -/
import Derived.Test.YtfcbfombobelmaaGreatDoorJ19
import Derived.Deep.MidRow
import Derived.Deep.Upon
import Derived.Laws.IdiomCopy
namespace Go.Proofs.YtfcbfombobelmaaGreatDoor
open Go.RowKit

/-- A cell that lies in a row. -/
def CAt (w : World) (b off : Nat) (c : Cl) : Prop :=
  ∃ ka kc va vc, w.cell? ⟨b, off, none⟩ = some (.slice ka c.key.length kc) ∧ w.cell? ⟨b, off + 1, none⟩ = some (.int .i64 c.kd) ∧ w.cell? ⟨b, off + 2, none⟩ = some (.slice va c.val.length vc) ∧ w.cell? ⟨b, off + 3, none⟩ = some (.int .i64 c.pg) ∧ w.cell? ⟨b, off + 4, none⟩ = some (.int .i64 c.ct) ∧ Sl w ka c.key.length kc c.key ∧ Sl w va c.val.length vc c.val
/-- THE SLICE VALUE READS AS THE CELLS cs. -/
structure SlC (w : World) (ao : Option Addr) (n cap : Nat) (cs : List Cl) : Prop where
  hlen : cs.length = n
  hcap : n ≤ cap
  hroom : n ≤ 140737488355328
  hnil : ao = none → cap = 0
  hat : n = 0 ∨ ∃ b off, ao = some ⟨b, off, none⟩ ∧ b < w.heap.size ∧ ∀ i c, cs[i]? = some c → CAt w b (off + i * 5) c
set_option maxRecDepth 100000 in
theorem CAt.on {w w' : World} {b off : Nat} {c : Cl} (h : CAt w b off c) (hb : b < w.heap.size) (hB : Below w.heap.size w w') : CAt w' b off c := by
  obtain ⟨ka, kc, va, vc, h0, h1, h2, h3, h4, h5, h6⟩ := h
  exact ⟨ka, kc, va, vc, (hB.cell (p := ⟨b, off, none⟩) hb).trans h0, (hB.cell (p := ⟨b, off + 1, none⟩) hb).trans h1, (hB.cell (p := ⟨b, off + 2, none⟩) hb).trans h2, (hB.cell (p := ⟨b, off + 3, none⟩) hb).trans h3, (hB.cell (p := ⟨b, off + 4, none⟩) hb).trans h4, h5.on (Nat.le_refl _) hB, h6.on (Nat.le_refl _) hB⟩
set_option maxRecDepth 100000 in
theorem SlC.on {w w' : World} {ao : Option Addr} {n cap : Nat} {cs : List Cl} (h : SlC w ao n cap cs) (hB : Below w.heap.size w w') : SlC w' ao n cap cs := by
  refine ⟨h.hlen, h.hcap, h.hroom, h.hnil, ?_⟩
  rcases h.hat with h0 | ⟨b, off, e, hb, hc⟩
  · exact .inl h0
  · exact .inr ⟨b, off, e, Nat.lt_of_lt_of_le hb hB.size, fun i c hi => (hc i c hi).on hb hB⟩
set_option maxRecDepth 100000 in
theorem SlC.wf {w : World} {ao : Option Addr} {n cap : Nat} {cs : List Cl} (h : SlC w ao n cap cs) : ∀ c ∈ cs, c.Wf := by
  intro c hc
  obtain ⟨i, hi, e⟩ := List.getElem_of_mem hc
  rcases h.hat with h0 | ⟨b, off, _, _, hcs⟩
  · have := h.hlen; omega
  · obtain ⟨_, _, _, _, _, _, _, _, _, h5, h6⟩ := hcs i c (by rw [List.getElem?_eq_getElem hi, e])
    exact ⟨h5.wf, h6.wf⟩
/-- A block of so many cells. -/
def RowC (w : World) (b N : Nat) : Prop := ∃ cur : Array Value, w.heap[b]? = some (.cells cur 29 (0, 0)) ∧ cur.size = 5 * N
set_option maxRecDepth 100000 in
theorem RowC.cell {w : World} {b N : Nat} (h : RowC w b N) (j : Nat) (hj : j < 5 * N) : (w.cell? ⟨b, j, none⟩).isSome = true := by
  obtain ⟨cur, h1, h2⟩ := h
  simp [World.cell?, h1, h2, hj]
set_option maxRecDepth 100000 in
theorem RowC.free {w : World} {b N : Nat} (h : RowC w b N) (j : Nat) : w.frozen? ⟨b, j, none⟩ = false := by
  obtain ⟨cur, h1, h2⟩ := h
  simp [World.frozen?, h1]
set_option maxRecDepth 100000 in
theorem RowC.lt {w : World} {b N : Nat} (h : RowC w b N) : b < w.heap.size := by
  obtain ⟨cur, h1, _⟩ := h
  exact lt_some h1
set_option maxRecDepth 100000 in
theorem RowC.on {w w' : World} {b N : Nat} (h : RowC w b N) (hb : Below w.heap.size w w') : RowC w' b N := by
  obtain ⟨cur, h1, h2⟩ := h
  exact ⟨cur, box_on h1 hb, h2⟩
set_option maxRecDepth 100000 in
theorem RowC.set {w : World} {b N : Nat} (h : RowC w b N) (j : Nat) (v : Value) : RowC (w.setCell ⟨b, j, none⟩ v) b N := by
  obtain ⟨cur, h1, h2⟩ := h
  exact ⟨_, heap_setCell_same w b j cur _ v h1, by simp [h2]⟩
set_option maxRecDepth 100000 in
theorem RowC.sets {b N : Nat} : ∀ (vs : List Value) (j : Nat) (w : World), RowC w b N → RowC (w.setCells b j vs) b N
  | [], _, _, h => h
  | v :: r, j, _, h => RowC.sets r (j + 1) _ (h.set j v)
set_option maxRecDepth 100000 in
theorem RowC.there {w : World} {b N : Nat} (h : RowC w b N) {j : Nat} (hj : j + 5 ≤ 5 * N) : w.there b j 5 := fun i hi => ⟨h.cell (j + i) (by omega), h.free _⟩
set_option maxRecDepth 100000 in
theorem RowC.ne {w : World} {b N g : Nat} {l : List Int} (h : RowC w b N) (hk : Bk w g l) : ¬ g = b := by
  rintro rfl
  obtain ⟨cur, h1, _⟩ := h
  unfold Bk at hk
  rw [hk] at h1
  simp at h1
set_option maxRecDepth 100000 in
theorem oneCell5 (ka va : Option Addr) (kn kc vn vc : Nat) (kd pg ct : Int) : (#[.slice ka kn kc, .int .i64 kd, .slice va vn vc, .int .i64 pg, .int .i64 ct] : Array Value).all (·.oneCell') = true :=
  all_oneCell_toArray (cs := [.slice ka kn kc, .int .i64 kd, .slice va vn vc, .int .i64 pg, .int .i64 ct]) (by simp [Value.oneCell'])
set_option maxRecDepth 100000 in
/-- The store of a cell into a row. -/
theorem put_cell {ops : Array Oper} {rest : List Oper} {o : Oper} {a : Act} {w : World} {Q : Exit → Act → World → Prop} (hgd : o.guard = none) (p v : Operand)
    (ho : o.op = .store 29 p v) (b j N : Nat) (ka va : Option Addr) (kn kc vn vc : Nat) (kd pg ct : Int) (hr : RowC w b N) (hp : a.eval p = .pointer (some ⟨b, j, none⟩)) (hv : a.eval v = .agg #[.slice ka kn kc, .int .i64 kd, .slice va vn vc, .int .i64 pg, .int .i64 ct]) (hj : j + 5 ≤ 5 * N)
    (h : ∀ u, Hid (u = w.setCells b j [.slice ka kn kc, .int .i64 kd, .slice va vn vc, .int .i64 pg, .int .i64 ct]) → wpList Tryz.prog ops Q rest (a.put o.dst undef) u) : wpList Tryz.prog ops Q (o :: rest) a w :=
  wpList_store_mid hgd _ p v ho b j #[.slice ka kn kc, .int .i64 kd, .slice va vn vc, .int .i64 pg, .int .i64 ct] hp hv (hr.there hj) sizeCell (oneCell5 ..) (h _ (hidden rfl))
/-- A cell of one's own in a row. -/
def DAt (w : World) (B b off : Nat) (c : Cl) : Prop :=
  ∃ g1 g2, w.cell? ⟨b, off, none⟩ = some (.slice (some ⟨g1, 0, none⟩) c.key.length c.key.length) ∧ w.cell? ⟨b, off + 1, none⟩ = some (.int .i64 c.kd) ∧ w.cell? ⟨b, off + 2, none⟩ = some (.slice (some ⟨g2, 0, none⟩) c.val.length c.val.length) ∧ w.cell? ⟨b, off + 3, none⟩ = some (.int .i64 c.pg) ∧ w.cell? ⟨b, off + 4, none⟩ = some (.int .i64 c.ct) ∧ Bk w g1 c.key ∧ Bk w g2 c.val ∧ B ≤ g1 ∧ B ≤ g2
set_option maxRecDepth 100000 in
theorem DAt.on {w w' : World} {B b off : Nat} {c : Cl} (h : DAt w B b off c) (hb : b < w.heap.size) (hB : Below w.heap.size w w') : DAt w' B b off c := by
  obtain ⟨g1, g2, h0, h1, h2, h3, h4, h5, h6, h7⟩ := h
  exact ⟨g1, g2, (hB.cell (p := ⟨b, off, none⟩) hb).trans h0, (hB.cell (p := ⟨b, off + 1, none⟩) hb).trans h1, (hB.cell (p := ⟨b, off + 2, none⟩) hb).trans h2, (hB.cell (p := ⟨b, off + 3, none⟩) hb).trans h3, (hB.cell (p := ⟨b, off + 4, none⟩) hb).trans h4, h5.on hB, h6.on hB, h7⟩
set_option maxRecDepth 100000 in
theorem Bk.sets {w : World} {g b j : Nat} {l : List Int} {vs : List Value} (h : Bk w g l) (hg : ¬ g = b) : Bk (w.setCells b j vs) g l := (World.heap_setCells_other _ _ _ _ (lt_some h) (by omega)).trans h
set_option maxRecDepth 100000 in
theorem DAt.put {w : World} {B b N i j : Nat} {c : Cl} {vs : List Value} (h : DAt w B b (i * 5) c) (hr : RowC w b N) (hij : i < j) : DAt (w.setCells b (j * 5) vs) B b (i * 5) c := by
  obtain ⟨g1, g2, h0, h1, h2, h3, h4, h5, h6, h7⟩ := h
  have ho : ∀ d, d < 5 → (w.setCells b (j * 5) vs).cell? ⟨b, i * 5 + d, none⟩ = w.cell? ⟨b, i * 5 + d, none⟩ := fun d hd => World.cell?_setCells_out b _ _ w _ (fun _ _ => .inl (by simp only; omega))
  exact ⟨g1, g2, (ho 0 (by omega)).trans h0, (ho 1 (by omega)).trans h1, (ho 2 (by omega)).trans h2, (ho 3 (by omega)).trans h3, (ho 4 (by omega)).trans h4, h5.sets (hr.ne h5), h6.sets (hr.ne h6), h7⟩
set_option maxRecDepth 100000 in
theorem DAt.new {w : World} {B b N j : Nat} {c : Cl} {g1 g2 : Nat} (hr : RowC w b N) (hj : j * 5 + 5 ≤ 5 * N) (h1 : Bk w g1 c.key) (h2 : Bk w g2 c.val) (h3 : B ≤ g1) (h4 : B ≤ g2) :
    DAt (w.setCells b (j * 5) [.slice (some ⟨g1, 0, none⟩) c.key.length c.key.length, .int .i64 c.kd, .slice (some ⟨g2, 0, none⟩) c.val.length c.val.length, .int .i64 c.pg, .int .i64 c.ct]) B b (j * 5) c := by
  have h := World.rangeAt_setCells_same w b (j * 5) [.slice (some ⟨g1, 0, none⟩) c.key.length c.key.length, .int .i64 c.kd, .slice (some ⟨g2, 0, none⟩) c.val.length c.val.length, .int .i64 c.pg, .int .i64 c.ct] (hr.there hj)
  exact ⟨g1, g2, h 0 _ rfl, h 1 _ rfl, h 2 _ rfl, h 3 _ rfl, h 4 _ rfl, h1.sets (hr.ne h1), h2.sets (hr.ne h2), h3, h4⟩
set_option maxRecDepth 100000 in
theorem infoC : (Tryz.prog.info? 29).map (fun i => (i.zero, i.size, i.bytes)) = some (some (.agg #[.slice none 0 0, .int .i64 0, .slice none 0 0, .int .i64 0, .int .i64 0]), 5, 72) := by kernel_rfl
end Go.Proofs.YtfcbfombobelmaaGreatDoor

/- plain.Size. -/

namespace Go.Proofs.YtfcbfombobelmaaGreatDoor
open Go.RowKit

set_option maxRecDepth 100000 in
theorem ctk_int (c : Cl) : (if c.kd = 1 then 7 + (c.key.length : Int) + (c.val.length : Int) else 13 + (c.key.length : Int)) = (ctk c : Int) := by
  unfold ctk
  split <;> simp
set_option maxRecDepth 100000 in
theorem szN_take (cs : List Cl) (i : Nat) (c : Cl) (h : cs[i]? = some c) : szN (cs.take (i + 1)) = szN (cs.take i) + ctk c := by
  have hi := (List.getElem?_eq_some_iff.1 h).1
  have e := (List.getElem?_eq_some_iff.1 h).2
  unfold szN
  rw [List.take_add_one, h]
  simp
  omega
set_option maxRecDepth 100000 in
theorem szN_take_le (cs : List Cl) (i : Nat) : szN (cs.take i) ≤ szN cs := by
  unfold szN
  conv => rhs; rw [← List.take_append_drop i cs]
  rw [List.map_append, List.sum_append]
  omega
set_option maxRecDepth 100000 in
/-- A cell of a slice of cells. -/
theorem SlC.item {w : World} {ao : Option Addr} {n cap : Nat} {cs : List Cl} (h : SlC w ao n cap cs) (i : Nat) (hi : i < n) : ∃ b off c ka kc va vc, ao = some ⟨b, off, none⟩ ∧ b < w.heap.size ∧ cs[i]? = some c ∧
    w.cell? ⟨b, off + i * 5, none⟩ = some (.slice ka c.key.length kc) ∧ w.cell? ⟨b, off + i * 5 + 1, none⟩ = some (.int .i64 c.kd) ∧ w.cell? ⟨b, off + i * 5 + 2, none⟩ = some (.slice va c.val.length vc) ∧ w.cell? ⟨b, off + i * 5 + 3, none⟩ = some (.int .i64 c.pg) ∧ w.cell? ⟨b, off + i * 5 + 4, none⟩ = some (.int .i64 c.ct) ∧ Sl w ka c.key.length kc c.key ∧ Sl w va c.val.length vc c.val := by
  have hl := h.hlen
  rcases h.hat with h0 | ⟨b, off, e, hb, hc⟩
  · omega
  · obtain ⟨c, hci⟩ : ∃ c, cs[i]? = some c := ⟨_, List.getElem?_eq_getElem (by omega)⟩
    obtain ⟨ka, kc, va, vc, h0⟩ := hc i c hci
    exact ⟨b, off, c, ka, kc, va, vc, e, hb, hci, h0⟩
set_option maxRecDepth 100000 in
set_option maxHeartbeats 1000000 in
theorem size_any (k : Int) (ao : Option Addr) (n cap : Nat) (cs : List Cl) (w : World) (hs : SlC w ao n cap cs) (hz : szN cs ≤ 1099511627776) :
    Calls Tryz.prog 75 #[.int .i64 k, .slice ao n cap] w fun e w' => e = .returned (.int .i64 (szN cs : Int)) ∧ Below w.heap.size w w' := by
  have HS := hidden hs
  have hn := hs.hroom
  have HLEN := hidden hs.hlen
  have HZ := hidden hz
  clear hs hz
  go_enter Tryz.func75, Tryz.ntmps75
  go_wp2_with fail
  go_loopw [5, 10] (fun v i wr => ∃ j : Nat, j ≤ n ∧ i = .int .i64 j ∧ v = .int .i64 (szN (cs.take j) : Int) ∧ Hid (Below w.heap.size w wr)) (fun _ i _ => n - (intOf i).toNat)
  case atStart => exact ⟨0, by omega, rfl, by simp [szN], hidden (Below.refl _ _)⟩
  case round =>
    obtain ⟨j, hj, rfl, rfl, HB⟩ := hrel
    have bj : (j : Int) ≤ 140737488355328 := by omega
    by_cases hlt : j < n
    · have hltI : (j : Int) < (n : Int) := by omega
      obtain ⟨b, off, c, ka, kc, va, vc, rfl, hb, hci, c0, c1, c2, c3, c4, hk, hv⟩ := (HS.out.on HB.out).item j hlt
      have hkr := hk.hroom
      have hvr := hv.hroom
      have HST := hidden (szN_take cs j c hci)
      have hle := szN_take_le cs (j + 1)
      rw [HST.out] at hle
      have hz := HZ.out
      obtain ⟨S, hS⟩ : ∃ S, szN (cs.take j) = S := ⟨_, rfl⟩
      obtain ⟨T, hT⟩ : ∃ T, ctk c = T := ⟨_, rfl⟩
      have HTI := hidden (ctk_int c)
      rw [hS, hT] at hle
      rw [hS, hT] at HST
      rw [hT] at HTI
      rw [hS]
      have b1 : (S : Int) ≤ 1099511627776 := by omega
      have b2 : (T : Int) ≤ 1099511627776 := by omega
      have HPT := hidden (fun u => ptaken_any ka c.key.length kc c.kd va c.val.length vc c.pg c.ct u hkr hvr)
      rw [HTI.out] at HPT
      clear hk hv hci hS hT hle hz HTI
      go_wp2_with (first | (go_at_call 99; refine (HPT.out _).mono ?_; rintro e w2 ⟨rfl, hb2⟩; have HB2 := hidden (bl_go (bl_al HB.out (Nat.le_refl _) _) (Nat.le_refl _) hb2); clear hb2))
      go_roundw
      case rel => exact ⟨j + 1, by omega, by go_num, by rw [HST.out]; simp, HB2⟩
      case measure => simp [intOf]; omega
    · obtain rfl : j = n := by omega
      have hlI : ¬ (j : Int) < (j : Int) := by omega
      have HT : Hid (cs.take j = cs) := hidden (List.take_of_length_le (by rw [HLEN.out]; exact Nat.le_refl _))
      go_wp2
      go_ret
      rw [HT.out]
      exact ⟨rfl, HB.out⟩
end Go.Proofs.YtfcbfombobelmaaGreatDoor
