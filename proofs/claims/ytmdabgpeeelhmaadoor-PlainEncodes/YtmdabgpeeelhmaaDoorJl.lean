/- Layer 6: the document's AsLentCell; rows of cells that were lent. -/
import Derived.Test.YtmdabgpeeelhmaaDoorJg
import Derived.Test.YtmdabgpeeelhmaaDoorJk
namespace Go.Proofs.YtmdabgpeeelhmaaDoor
open Go.RowKit

set_option maxRecDepth 100000 in
theorem sets5_below {b j : Nat} : ∀ (vs : List Value) (i : Nat) (w : World), Below b w (w.setCells b i vs)
  | [], _, _ => Below.refl _ _
  | v :: r, i, w => ((Below.refl b w).setCell (p := ⟨b, i, none⟩) (Nat.le_refl _) v).trans (sets5_below (j := j) r (i + 1) _)
set_option maxRecDepth 100000 in
theorem sets5_size {b : Nat} : ∀ (vs : List Value) (i : Nat) (w : World), (w.setCells b i vs).heap.size = w.heap.size
  | [], _, _ => rfl
  | v :: r, i, w => by
    show ((w.setCell ⟨b, i, none⟩ v).setCells b (i + 1) r).heap.size = _
    rw [sets5_size r (i + 1)]
    simp
/-- Between R and L. -/
def Bt (R L k : Nat) : Prop := R ≤ k ∧ k < L
set_option maxRecDepth 100000 in
theorem sets5_cf {b : Nat} {F : Nat → Prop} (hb : F b) : ∀ (vs : List Value) (i : Nat) (w : World), Cf F w (w.setCells b i vs)
  | [], _, w => Cf.refl _ w
  | v :: r, i, w => (Cf.setCell (F := F) w (p := ⟨b, i, none⟩) hb v).go (sets5_cf hb r (i + 1) _)
set_option maxRecDepth 100000 in
theorem sl_lent {w : World} {g : Nat} {l : List Int} (h : Bk w g (l ++ mks 9)) (hw : Wf l) (hl : l.length ≤ 140737488355328) : Sl w (some ⟨g, 0, none⟩) l.length (l.length + 9) l :=
  ⟨rfl, by omega, hl, hw, (by intro h; cases h), .inr ⟨g, 0, rfl, lt_some h, fun i hi => by
    rw [Nat.zero_add, cell9 h, getD_By _ _ (by rw [List.length_append]; omega)]
    simp only [List.getD]
    rw [List.getElem?_append_left (by omega)]⟩⟩

set_option maxRecDepth 100000 in
set_option maxHeartbeats 4000000 in
theorem asLentCell_any (key val : List Int) (kd pg ct : Int) (G1 G2 : Nat) (ka va : Option Addr) (kn vn kc vc : Nat) (w : World) (h1 : Bk w G1 (key ++ mks 9)) (h2 : Bk w G2 (val ++ mks 9)) (hne : ¬ G1 = G2)
    (hk : ∀ u, Cf (fun k => k = G1 ∨ k = G2) w u → Sl u ka kn kc key) (hv : ∀ u, Cf (fun k => k = G1 ∨ k = G2) w u → Sl u va vn vc val) :
    Calls Tryd.prog 32 #[.agg #[.slice (some ⟨G1, 0, none⟩) kn (kn + 9), .int .i64 kd, .slice (some ⟨G2, 0, none⟩) vn (vn + 9), .int .i64 pg, .int .i64 ct], .agg #[.slice ka kn kc, .int .i64 kd, .slice va vn vc, .int .i64 pg, .int .i64 ct]] w fun e w' => e = .returned (.bool true) ∧ Hid (Cf (fun k => k = G1 ∨ k = G2) w w') := by
  obtain ⟨s, hs⟩ : ∃ s, w.heap.size = s := ⟨_, rfl⟩
  obtain ⟨y, hy⟩ : ∃ y, w.alloc (.cells #[.slice (some ⟨G1, 0, none⟩) kn (kn + 9), .int .i64 kd, .slice (some ⟨G2, 0, none⟩) vn (vn + 9), .int .i64 pg, .int .i64 ct] 31) = y := ⟨_, rfl⟩
  have hz : y.heap.size = s + 1 := by rw [← hy, ← hs]; simp
  obtain ⟨x, hx⟩ : ∃ x, y.alloc (.cells #[.slice ka kn kc, .int .i64 kd, .slice va vn vc, .int .i64 pg, .int .i64 ct] 31) = x := ⟨_, rfl⟩
  have hbx : Below w.heap.size w x := by rw [← hx, ← hy]; exact bl_al (bl_al (Below.refl _ _) (Nat.le_refl _) _) (Nat.le_refl _) _
  have HBA : Hid (C5 x s (.slice (some ⟨G1, 0, none⟩) kn (kn + 9)) (.int .i64 kd) (.slice (some ⟨G2, 0, none⟩) vn (vn + 9)) (.int .i64 pg) (.int .i64 ct)) := by
    have h1 := heap_alloc_last w (.cells #[.slice (some ⟨G1, 0, none⟩) kn (kn + 9), .int .i64 kd, .slice (some ⟨G2, 0, none⟩) vn (vn + 9), .int .i64 pg, .int .i64 ct] 31)
    rw [hs, hy] at h1
    rw [← hx]
    exact hidden ((Below.heap_alloc _ _ _ (by rw [hz]; exact Nat.lt_succ_self _)).trans h1)
  have HBC : Hid (C5 x (s + 1) (.slice ka kn kc) (.int .i64 kd) (.slice va vn vc) (.int .i64 pg) (.int .i64 ct)) := by
    have := heap_alloc_last y (.cells #[.slice ka kn kc, .int .i64 kd, .slice va vn vc, .int .i64 pg, .int .i64 ct] 31)
    rw [hz, hx] at this
    exact hidden this
  have hl1 : G1 < s := by rw [← hs]; exact lt_some h1
  have hl2 : G2 < s := by rw [← hs]; exact lt_some h2
  have HCX : Hid (Cf (fun k => k = G1 ∨ k = G2) w x) := hidden (Cf.of_below hbx)
  have HK2 : Hid (Bk x G2 (val ++ mks 9)) := hidden (h2.on hbx)
  have HA1 := hidden (AsLent_any G1 kn ka kc key x (h1.on hbx) (hk x HCX.out))
  have HV := hidden hv
  have ekd : (kd == kd) = true := by simp
  have epg : (pg == pg) = true := by simp
  have ect : (ct == ct) = true := by simp
  have hxw : (w.alloc (.cells #[.slice (some ⟨G1, 0, none⟩) kn (kn + 9), .int .i64 kd, .slice (some ⟨G2, 0, none⟩) vn (vn + 9), .int .i64 pg, .int .i64 ct] 31)).alloc (.cells #[.slice ka kn kc, .int .i64 kd, .slice va vn vc, .int .i64 pg, .int .i64 ct] 31) = x := by rw [hy, hx]
  obtain ⟨a0, a1, a2, a3, a4⟩ := HBA.out.cells
  obtain ⟨b0, b1, b2, b3, b4⟩ := HBC.out.cells
  clear h1 h2 hk hv hbx hy hx hz
  go_enter Tryd.func32, Tryd.ntmps32
  go_wp2_with (first | (go_at_call 60; refine HA1.out.mono ?_; rintro e u1 ⟨rfl, hc1⟩; refine Hid.out ?_))
  apply hidden
  have HC1 : Hid (Cf (fun k => k = G1 ∨ k = G2) w u1) := hidden (HCX.out.go (hc1.wide (fun k h => .inl h)))
  have HBA1 := hidden (HBA.out.cf hc1 (by omega))
  have HBC1 := hidden (HBC.out.cf hc1 (by omega))
  have HA2 := hidden (AsLent_any G2 vn va vc val u1 (HK2.out.cf hc1 (fun e => hne e.symm)) (HV.out u1 HC1.out))
  clear a0 a1 a2 a3 a4 b0 b1 b2 b3 b4 hc1 HA1 HCX HK2 HBA HBC
  obtain ⟨a0, a1, a2, a3, a4⟩ := HBA1.out.cells
  obtain ⟨b0, b1, b2, b3, b4⟩ := HBC1.out.cells
  go_wp2_with (first | (go_at_call 60; refine HA2.out.mono ?_; rintro e u2 ⟨rfl, hc2⟩; refine Hid.out ?_))
  apply hidden
  have HC2 : Hid (Cf (fun k => k = G1 ∨ k = G2) w u2) := hidden (HC1.out.go (hc2.wide (fun k h => .inr h)))
  clear a0 a1 a2 a3 a4 b0 b1 b2 b3 b4 hc2 HA2 HC1
  go_wp2
  go_ret
  exact ⟨rfl, HC2⟩
end Go.Proofs.YtmdabgpeeelhmaaDoor

/- Layer 6: the document's Lent: a row of cells as their owner hands them in. -/

namespace Go.Proofs.YtmdabgpeeelhmaaDoor
open Go.RowKit

/-- The items from lo up to k stand as they were lent: item i's key in block g (2 i), its value in block g (2 i + 1). -/
structure Ln6 (w : World) (R : Nat) (cs : List Cl) (g : Nat → Nat) (lo k : Nat) : Prop where
  at_ : ∀ (i : Nat) (c : Cl), lo ≤ i → i < k → cs[i]? = some c →
    w.cell? ⟨R, i * 5, none⟩ = some (.slice (some ⟨g (2 * i), 0, none⟩) c.key.length (c.key.length + 9)) ∧ w.cell? ⟨R, i * 5 + 1, none⟩ = some (.int .i64 c.kd) ∧ w.cell? ⟨R, i * 5 + 2, none⟩ = some (.slice (some ⟨g (2 * i + 1), 0, none⟩) c.val.length (c.val.length + 9)) ∧ w.cell? ⟨R, i * 5 + 3, none⟩ = some (.int .i64 c.pg) ∧ w.cell? ⟨R, i * 5 + 4, none⟩ = some (.int .i64 c.ct) ∧
    Bk w (g (2 * i)) (c.key ++ mks 9) ∧ Bk w (g (2 * i + 1)) (c.val ++ mks 9)
  mono : ∀ a b, a < b → b < 2 * k → g a < g b
  gt : ∀ a, a < 2 * k → R < g a
  lt : ∀ a, a < 2 * k → g a < w.heap.size
set_option maxRecDepth 100000 in
theorem Ln6.keep {w w' : World} {R lo lo' k : Nat} {cs : List Cl} {g : Nat → Nat} (h : Ln6 w R cs g lo k) (hl : lo ≤ lo') (hz : w.heap.size ≤ w'.heap.size) (h1 : ∀ j, 5 * lo' ≤ j → j < 5 * k → w'.cell? ⟨R, j, none⟩ = w.cell? ⟨R, j, none⟩) (h2 : ∀ a, 2 * lo' ≤ a → a < 2 * k → w'.heap[g a]? = w.heap[g a]?) : Ln6 w' R cs g lo' k := by
  refine ⟨fun i c hi hk hc => ?_, h.mono, h.gt, fun a ha => Nat.lt_of_lt_of_le (h.lt a ha) hz⟩
  obtain ⟨a0, a1, a2, a3, a4, a5, a6⟩ := h.at_ i c (by omega) hk hc
  exact ⟨(h1 _ (by omega) (by omega)).trans a0, (h1 _ (by omega) (by omega)).trans a1, (h1 _ (by omega) (by omega)).trans a2, (h1 _ (by omega) (by omega)).trans a3, (h1 _ (by omega) (by omega)).trans a4, (h2 _ (by omega) (by omega)).trans a5, (h2 _ (by omega) (by omega)).trans a6⟩
set_option maxRecDepth 100000 in
/-- One more. -/
theorem Ln6.step {wr w5 w6 : World} {R k n G1 G2 : Nat} {cs : List Cl} {c : Cl} {g : Nat → Nat} (h : Ln6 wr R cs g 0 k) (hr : RowC w5 R (n + 3)) (hk : k < n) (hc : cs[k]? = some c) (hR : R < wr.heap.size)
    (e5 : ∀ b, b < wr.heap.size → w5.heap[b]? = wr.heap[b]?) (h1 : wr.heap.size < G1) (h2 : G1 < G2)
    (o1 : Bk w5 G1 (c.key ++ mks 9)) (o2 : Bk w5 G2 (c.val ++ mks 9))
    (e6 : w6 = w5.setCells R (k * 5) [.slice (some ⟨G1, 0, none⟩) c.key.length (c.key.length + 9), .int .i64 c.kd, .slice (some ⟨G2, 0, none⟩) c.val.length (c.val.length + 9), .int .i64 c.pg, .int .i64 c.ct]) :
    Ln6 w6 R cs (fun a => if a < 2 * k then g a else if a = 2 * k then G1 else G2) 0 (k + 1) := by
  have l1 : G1 < w5.heap.size := lt_some o1
  have l2 : G2 < w5.heap.size := lt_some o2
  have hsz : w6.heap.size = w5.heap.size := by rw [e6, sets5_size]
  have hob : ∀ b, b < w5.heap.size → b ≠ R → w6.heap[b]? = w5.heap[b]? := fun b hb hne => by rw [e6]; exact World.heap_setCells_other _ _ _ _ hb hne
  refine ⟨fun i d _ hi hd => ?_, fun a b hab hb => ?_, fun a ha => ?_, fun a ha => ?_⟩
  · by_cases hik : i < k
    · obtain ⟨a0, a1, a2, a3, a4, a5, a6⟩ := h.at_ i d (by omega) hik hd
      have hcl : ∀ j, j < 5 * k → w6.cell? ⟨R, j, none⟩ = wr.cell? ⟨R, j, none⟩ := fun j hj => by
        rw [e6, World.cell?_setCells_out R _ _ w5 _ (fun _ _ => .inl (by simp only; omega))]
        exact World.cell?_of_block (e5 R hR)
      simp only [show 2 * i < 2 * k by omega, show 2 * i + 1 < 2 * k by omega, if_true]
      have b1 := h.lt (2 * i) (by omega)
      have b2 := h.lt (2 * i + 1) (by omega)
      have c1 := h.gt (2 * i) (by omega)
      have c2 := h.gt (2 * i + 1) (by omega)
      refine ⟨(hcl _ (by omega)).trans a0, (hcl _ (by omega)).trans a1, (hcl _ (by omega)).trans a2, (hcl _ (by omega)).trans a3, (hcl _ (by omega)).trans a4, ?_, ?_⟩
      · exact ((hob _ (by omega) (by omega)).trans (e5 _ b1)).trans a5
      · exact ((hob _ (by omega) (by omega)).trans (e5 _ b2)).trans a6
    · obtain rfl : i = k := by omega
      rw [hc] at hd
      injection hd with hd
      subst hd
      simp only [show ¬ 2 * i < 2 * i by omega, show ¬ 2 * i + 1 < 2 * i by omega, show ¬ 2 * i + 1 = 2 * i by omega, if_true, if_false]
      have hcs := World.rangeAt_setCells_same w5 R (i * 5) [.slice (some ⟨G1, 0, none⟩) c.key.length (c.key.length + 9), .int .i64 c.kd, .slice (some ⟨G2, 0, none⟩) c.val.length (c.val.length + 9), .int .i64 c.pg, .int .i64 c.ct] (hr.there (by omega))
      rw [← e6] at hcs
      exact ⟨hcs 0 _ rfl, hcs 1 _ rfl, hcs 2 _ rfl, hcs 3 _ rfl, hcs 4 _ rfl, (hob _ l1 (by omega)).trans o1, (hob _ l2 (by omega)).trans o2⟩
  · by_cases hb2 : b < 2 * k
    · have := h.mono a b hab hb2
      simp only [show a < 2 * k by omega, hb2, if_true]
      exact this
    · by_cases ha2 : a < 2 * k
      · have := h.lt a ha2
        simp only [ha2, hb2, if_true, if_false]
        split <;> omega
      · obtain rfl : a = 2 * k := by omega
        obtain rfl : b = 2 * k + 1 := by omega
        simp only [hb2, ha2, show ¬ 2 * k + 1 = 2 * k by omega, if_true, if_false]
        exact h2
  · by_cases ha2 : a < 2 * k
    · simp only [ha2, if_true]
      exact h.gt a ha2
    · simp only [ha2, if_false]
      split <;> omega
  · rw [hsz]
    by_cases ha2 : a < 2 * k
    · simp only [ha2, if_true]
      have := h.lt a ha2
      have : wr.heap.size < w5.heap.size := by omega
      omega
    · simp only [ha2, if_false]
      split <;> assumption
/-- CELLS AS THEY WERE LENT, in the row R, all of it below L. -/
def Lent6 (w : World) (R : Nat) (cs : List Cl) (n L : Nat) : Prop :=
  ∃ g, Ln6 w R cs g 0 n ∧ RowC w R (n + 3) ∧ (∀ j, n ≤ j → j < n + 3 → w.cell? ⟨R, j * 5 + 1, none⟩ = some (.int .i64 (-7))) ∧ (∀ a, a < 2 * n → g a < L) ∧ R < L
set_option maxRecDepth 100000 in
theorem Lent6.on {w w' : World} {R n L : Nat} {cs : List Cl} (h : Lent6 w R cs n L) (hb : Below w.heap.size w w') : Lent6 w' R cs n L := by
  obtain ⟨g, h1, h2, h3, h5, h6⟩ := h
  have hR := h2.lt
  exact ⟨g, h1.keep (Nat.le_refl _) hb.size (fun j _ _ => hb.cell (p := ⟨R, j, none⟩) hR) (fun a _ ha => hb.block _ (h1.lt a ha)), h2.on hb, fun j h1 h2 => (hb.cell (p := ⟨R, _, none⟩) hR).trans (h3 j h1 h2), h5, h6⟩
set_option maxRecDepth 100000 in
theorem Lent6.cf {w w' : World} {R n L : Nat} {cs : List Cl} {F : Nat → Prop} (h : Lent6 w R cs n L) (hc : Cf F w w') (hf : ∀ k, R ≤ k → k < L → ¬ F k) : Lent6 w' R cs n L := by
  obtain ⟨g, h1, h2, h3, h5, h6⟩ := h
  have hR := h2.lt
  have hb : w'.heap[R]? = w.heap[R]? := hc.block R hR (hf R (Nat.le_refl _) h6)
  refine ⟨g, h1.keep (Nat.le_refl _) hc.size (fun j _ _ => World.cell?_of_block hb) (fun a _ ha => hc.block _ (h1.lt a ha) (hf _ (Nat.le_of_lt (h1.gt a ha)) (h5 a ha))), ?_, fun j h1 h2 => (World.cell?_of_block hb).trans (h3 j h1 h2), h5, h6⟩
  obtain ⟨cur, hh, hs⟩ := h2
  exact ⟨cur, hb.trans hh, hs⟩
set_option maxRecDepth 100000 in
theorem Lent6.slc {w : World} {R n L : Nat} {cs : List Cl} (h : Lent6 w R cs n L) (hl : cs.length = n) (hn : n ≤ 900000) (hw : ∀ c ∈ cs, c.Wf) (hk : ∀ c ∈ cs, c.key.length + c.val.length ≤ 35184372088832) : SlC w (some ⟨R, 0, none⟩) n (n + 3) cs := by
  obtain ⟨g, h1, h2, _⟩ := h
  refine ⟨hl, by omega, by omega, (by intro h; cases h), .inr ⟨R, 0, rfl, h2.lt, fun i c hi => ?_⟩⟩
  have hil : i < n := by have := (List.getElem?_eq_some_iff.1 hi).1; omega
  obtain ⟨a0, a1, a2, a3, a4, a5, a6⟩ := h1.at_ i c (by omega) hil hi
  have hm := List.mem_of_getElem? hi
  have := hk c hm
  rw [Nat.zero_add]
  exact ⟨_, _, _, _, a0, a1, a2, a3, a4, sl_lent a5 (hw c hm).1 (by omega), sl_lent a6 (hw c hm).2 (by omega)⟩

set_option maxHeartbeats 2000000 in
set_option maxRecDepth 100000 in
theorem lent6_any (ao : Option Addr) (n cap : Nat) (cs : List Cl) (w : World) (hs : SlC w ao n cap cs) (hn : n ≤ 900000) :
    Calls Tryd.prog 8 #[.slice ao n cap] w fun e w' => e = .returned (.slice (some ⟨w.heap.size, 0, none⟩) n (n + 3)) ∧ Hid (Lent6 w' w.heap.size cs n w'.heap.size) ∧ Hid (Below w.heap.size w w') := by
  obtain ⟨i0, hi, hz0, hz1, hz2⟩ := info_parts infoC
  have HS := hidden hs
  have HLEN := hidden hs.hlen
  clear hs
  go_enter Tryd.func8, Tryd.ntmps8
  go_wp2_with (at_make; refine wpList_make_full _ rfl _ _ 22 rfl w.heap.size 31 i0 _ 5 Tryd.underlying22 hi hz0 hz1 .i64 .i64 (n + 3) (n + 3) (n + 3) rfl rfl rfl rfl (by rw [hz2]; omega) (by unfold maxLen; omega) (Nat.le_refl _) ?_)
  intro w1 hown1 hg1
  have hb1 : Below w.heap.size w w1 := (Below.refl _ _).grown hg1 (Nat.le_refl _) (fun k hk => by cases hk)
  have hR1 : RowC w1 w.heap.size (n + 3) := by
    rcases hown1.2 with ⟨h, _⟩ | ⟨g, c, cur, h, _, hh, _, _, hs, ht⟩
    · cases h
    · cases h
      exact ⟨cur, hh, by omega⟩
  have HR1 := hidden hR1
  have HB1 := hidden hb1
  obtain ⟨R, hR⟩ : ∃ R, w.heap.size = R := ⟨_, rfl⟩
  rw [hR] at HR1 HB1 ⊢
  clear hown1 hg1 hb1 hR1 hi hz0 hz1 hz2
  go_wp2_with fail
  go_loopw [5] (fun i wr => ∃ (k : Nat) (g : Nat → Nat), k ≤ n + 3 ∧ i = .int .i64 k ∧ Hid (Ln6 wr R cs g 0 (min k n)) ∧ Hid (∀ j, n ≤ j → j < k → wr.cell? ⟨R, j * 5 + 1, none⟩ = some (.int .i64 (-7))) ∧ Hid (RowC wr R (n + 3)) ∧ Hid (Below R w wr)) (fun i _ => n + 3 - (intOf i).toNat)
  case atStart => exact ⟨0, fun _ => 0, by omega, rfl, hidden ⟨fun i c _ h _ => by omega, fun a b _ h => by omega, fun a h => by omega, fun a h => by omega⟩, hidden (fun j h1 h2 => by omega), HR1, HB1⟩
  case round =>
    clear HR1 HB1
    obtain ⟨k, g, hk, rfl, HL, HM, HR, HB⟩ := hrel
    have bk : (k : Int) ≤ 900003 := by omega
    by_cases hlt : k < n + 3
    · have hltI : (k : Int) < (n : Int) + 3 := by omega
      have hRr := HR.out.lt
      go_wp2_with (refine put_cell (by rfl) _ _ (by rfl) R (k * 5) (n + 3) none none 0 0 0 0 (-7) 0 0 HR.out (by rfl) (by rfl) (by omega) ?_; intro w2 HU2; refine Hid.out ?_)
      apply hidden
      have HR2 : Hid (RowC w2 R (n + 3)) := hidden (by rw [HU2.out]; exact RowC.sets _ _ _ HR.out)
      have HB2 : Hid (Below R w w2) := hidden (by rw [HU2.out]; exact HB.out.trans (sets5_below (j := 0) _ _ _))
      have HZ2 : Hid (w2.heap.size = wr.heap.size) := hidden (by rw [HU2.out, sets5_size])
      have HL2 : Hid (Ln6 w2 R cs g 0 (min k n)) := hidden (HL.out.keep (Nat.le_refl _) (by rw [HZ2.out]; exact Nat.le_refl _) (fun j _ hj => by
          rw [HU2.out]; exact World.cell?_setCells_out R _ _ wr _ (fun _ _ => .inl (by simp only; omega))) (fun a _ ha => by
          have h1 := HL.out.lt a ha
          have h2 := HL.out.gt a ha
          rw [HU2.out, World.heap_setCells_other _ _ _ _ (by omega) (by omega)]))
      have HMO : Hid (∀ j, n ≤ j → j < k → w2.cell? ⟨R, j * 5 + 1, none⟩ = some (.int .i64 (-7))) := hidden (fun j h1 h2 => by
        rw [HU2.out, World.cell?_setCells_out R _ _ wr _ (fun _ _ => .inl (by simp only; omega))]
        exact HM.out j h1 h2)
      have HMK : Hid (w2.cell? ⟨R, k * 5 + 1, none⟩ = some (.int .i64 (-7))) := hidden (by
        have hr2 := World.rangeAt_setCells_same wr R (k * 5) [.slice none 0 0, .int .i64 (-7), .slice none 0 0, .int .i64 0, .int .i64 0] (HR.out.there (by omega))
        rw [← HU2.out] at hr2
        exact hr2 1 _ rfl)
      clear HU2 HL HM HR HB
      by_cases hkn : k < n
      · have hknI : (k : Int) < (n : Int) := by omega
        obtain ⟨b, off, c, ka, kc, va, vc, rfl, hbl, hci, c0, c1, c2, c3, c4, hk1, hv1⟩ := HS.out.item k hkn
        have hbR : b < R := by rw [← hR]; exact hbl
        have d0 := (HB2.out.cell (p := ⟨b, off + k * 5, none⟩) hbR).trans c0
        have d1 := (HB2.out.cell (p := ⟨b, off + k * 5 + 1, none⟩) hbR).trans c1
        have d2 := (HB2.out.cell (p := ⟨b, off + k * 5 + 2, none⟩) hbR).trans c2
        have d3 := (HB2.out.cell (p := ⟨b, off + k * 5 + 3, none⟩) hbR).trans c3
        have d4 := (HB2.out.cell (p := ⟨b, off + k * 5 + 4, none⟩) hbR).trans c4
        have HCI := hidden hci
        obtain ⟨key, kd, val, pg, ct⟩ := c
        simp only at d0 d1 d2 d3 d4 hk1 hv1
        obtain ⟨kn, hkn'⟩ : ∃ kn, key.length = kn := ⟨_, rfl⟩
        obtain ⟨vn, hvn⟩ : ∃ vn, val.length = vn := ⟨_, rfl⟩
        rw [hkn'] at hk1 d0
        rw [hvn] at hv1 d2
        have HLN := hidden (And.intro hkn' hvn)
        have HLC := hidden (lentCell_any key val kd pg ct ka va kn vn kc vc w2 (hk1.on (by omega) HB2.out) (hv1.on (by omega) HB2.out))
        clear c0 c1 c2 c3 c4 hk1 hv1 hci hkn' hvn
        go_wp2_with (first | (go_at_call 26; refine HLC.out.mono ?_; rintro e w4 ⟨G1, G2, rfl, HG, HBc⟩; refine Hid.out ?_))
        apply hidden
        have HR4 : Hid (RowC w4 R (n + 3)) := hidden (HR2.out.on HBc.out)
        have HB4 : Hid (Below R w w4) := hidden (HB2.out.trans (HBc.out.mono (Nat.le_of_lt HR2.out.lt)))
        have hRr4 := HR4.out.lt
        clear d0 d1 d2 d3 d4 HLC
        go_wp2_with (refine put_cell (by rfl) _ _ (by rfl) R (k * 5) (n + 3) (some ⟨G1, 0, none⟩) (some ⟨G2, 0, none⟩) kn (kn + 9) vn (vn + 9) kd pg ct HR4.out (by rfl) (by rfl) (by omega) ?_; intro w6 HU; refine Hid.out ?_)
        apply hidden
        have HN : Hid (Ln6 w6 R cs (fun a => if a < 2 * k then g a else if a = 2 * k then G1 else G2) 0 (min (k + 1) n)) := hidden (by
          have hl2 := HL2.out
          rw [Nat.min_eq_left (by omega)] at hl2 ⊢
          exact hl2.step (n := n) HR4.out hkn HCI.out HR2.out.lt (fun b hb => HBc.out.block b hb) HG.out.2.2.1 HG.out.2.2.2 HG.out.1 HG.out.2.1 (by simp only [HLN.out.1, HLN.out.2]; exact HU.out))
        have HR6 : Hid (RowC w6 R (n + 3)) := hidden (by rw [HU.out]; exact RowC.sets _ _ _ HR4.out)
        have HB6 : Hid (Below R w w6) := hidden (by rw [HU.out]; exact HB4.out.trans (sets5_below (j := 0) _ _ _))
        clear HU HR4 HB4 HG HBc HR2 HB2 HL2 HMO HMK
        go_wp2
        go_roundw
        case rel => exact ⟨k + 1, _, by omega, by go_num, HN, hidden (fun j h1 h2 => by omega), HR6, HB6⟩
        case measure => simp [intOf]; omega
      · have hknI : ¬ (k : Int) < (n : Int) := by omega
        have HN : Hid (Ln6 w2 R cs g 0 (min (k + 1) n)) := hidden (by
          have hl2 := HL2.out
          rw [Nat.min_eq_right (by omega)] at hl2 ⊢
          exact hl2)
        clear HL2
        go_wp2
        go_roundw
        case rel => exact ⟨k + 1, g, by omega, by go_num, HN, hidden (fun j h1 h2 => by
            by_cases e : j = k
            · rw [e]; exact HMK.out
            · exact HMO.out j h1 (by omega)), HR2, HB2⟩
        case measure => simp [intOf]; omega
    · obtain rfl : k = n + 3 := by omega
      have hltI : ¬ ((n + 3 : Nat) : Int) < (n : Int) + 3 := by omega
      have HE : Hid (Lent6 wr R cs n wr.heap.size) := hidden (by
        have hl := HL.out
        rw [Nat.min_eq_right (by omega)] at hl
        exact ⟨g, hl, HR.out, fun j h1 h2 => HM.out j h1 h2, hl.lt, HR.out.lt⟩)
      clear HL HM HR
      go_wp2
      go_ret
      exact ⟨rfl, HE, HB⟩
end Go.Proofs.YtmdabgpeeelhmaaDoor
