import Derived.Test.YtfgffajgfgifhaaGreatDoorJ12
import Derived.Lib.Overlaps
import Derived.Lib.SliceRun
import Derived.Lib.AppendZerosOnto
import Derived.Laws.IdiomCopy
import Derived.Deep.AppendSrc
namespace Go.Proofs.YtfgffajgfgifhaaGreatDoor
set_option maxRecDepth 100000
set_option maxHeartbeats 2000000
open Go.RowKit
theorem zdm {b j : Nat} : ∀ (vs : List Value) (i : Nat) (w : World), Below b w (w.setCells b i vs)
 | [], _, _ => Br
 | v :: r, i, w => ((Below.refl b w).setCell (p := ⟨b, i, none⟩) Lr v).trans (zdm (j := j) r (i + 1) _)
theorem sets5_size {b : Nat} : ∀ (vs : List Value) (i : Nat) (w : World), (w.setCells b i vs).heap.size = w.heap.size
 | [], _, _ => rfl
 | v :: r, i, w => by
  show ((w.setCell ⟨b, i, none⟩ v).setCells b (i + 1) r).heap.size = _
  rw [sets5_size r (i + 1)]
  simp
structure LnC (w : World) (R : Nat) (cs : List Cl) (g : Nat → Nat) (lo k : Nat) : Prop where
 at_ : ∀ (i : Nat) (c : Cl), lo ≤ i → i < k → cs[i]? = some c →
  w.cell? ⟨R, i * 5, none⟩ = some (.slice (some ⟨g (2 * i), 0, none⟩) c.key.length (c.key.length + 3)) ∧ w.cell? ⟨R, i * 5 + 1, none⟩ = some (.int .i64 c.kd) ∧ w.cell? ⟨R, i * 5 + 2, none⟩ = some (.slice (some ⟨g (2 * i + 1), 0, none⟩) c.val.length (c.val.length + 3)) ∧ w.cell? ⟨R, i * 5 + 3, none⟩ = some (.int .i64 c.pg) ∧ w.cell? ⟨R, i * 5 + 4, none⟩ = some (.int .i64 c.ct) ∧
  OwnB w R (.slice (some ⟨g (2 * i), 0, none⟩) (c.key.length + 3) (c.key.length + 3)) (c.key ++ [71, 72, 73]) ∧ OwnB w R (.slice (some ⟨g (2 * i + 1), 0, none⟩) (c.val.length + 3) (c.val.length + 3)) (c.val ++ [71, 72, 73])
 mono : ∀ a b, a < b → b < 2 * k → g a < g b
 gt : ∀ a, a < 2 * k → R < g a
 lt : ∀ a, a < 2 * k → g a < w.heap.size
theorem LnC.keep {w w' : World} {R lo lo' k : Nat} {cs : List Cl} {g : Nat → Nat} (h : LnC w R cs g lo k) (hl : lo ≤ lo') (hz : w.heap.size ≤ w'.heap.size) (h1 : ∀ j, j < 5 * k → w'.cell? ⟨R, j, none⟩ = w.cell? ⟨R, j, none⟩) (h2 : ∀ a, 2 * lo' ≤ a → a < 2 * k → w'.heap[g a]? = w.heap[g a]?) : LnC w' R cs g lo' k := by
 refine ⟨fun i c hi hk hc => ?_, h.mono, h.gt, fun a ha => zO (h.lt a ha) hz⟩
 obtain ⟨a0, a1, a2, a3, a4, a5, a6⟩ := h.at_ i c (by omega) hk hc
 refine ⟨(h1 _ (by omega)).trans a0, (h1 _ (by omega)).trans a1, (h1 _ (by omega)).trans a2, (h1 _ (by omega)).trans a3, (h1 _ (by omega)).trans a4, a5.same fun b hb => ?_, a6.same fun b hb => ?_⟩
 ·have : g (2 * i) = b := by simpa [Value.ownBlock] using hb
  rw [← this]
  exact h2 _ (by omega) (by omega)
 ·have : g (2 * i + 1) = b := by simpa [Value.ownBlock] using hb
  rw [← this]
  exact h2 _ (by omega) (by omega)
theorem LnC.step {wr w5 w6 : World} {R k n G1 G2 : Nat} {cs : List Cl} {c : Cl} {g : Nat → Nat} (h : LnC wr R cs g 0 k) (hr : RowC w5 R (n + 2)) (hk : k < n) (hc : cs[k]? = some c) (hR : R < wr.heap.size)
  (e5 : ∀ b, b < wr.heap.size → w5.heap[b]? = wr.heap[b]?) (h1 : wr.heap.size < G1) (h2 : G1 < G2)
  (o1 : OwnB w5 R (.slice (some ⟨G1, 0, none⟩) (c.key.length + 3) (c.key.length + 3)) (c.key ++ [71, 72, 73])) (o2 : OwnB w5 R (.slice (some ⟨G2, 0, none⟩) (c.val.length + 3) (c.val.length + 3)) (c.val ++ [71, 72, 73]))
  (e6 : w6 = w5.setCells R (k * 5) [.slice (some ⟨G1, 0, none⟩) c.key.length (c.key.length + 3), .int .i64 c.kd, .slice (some ⟨G2, 0, none⟩) c.val.length (c.val.length + 3), .int .i64 c.pg, .int .i64 c.ct]) :
  LnC w6 R cs (fun a => if a < 2 * k then g a else if a = 2 * k then G1 else G2) 0 (k + 1) := by
 have l1 : G1 < w5.heap.size := (World.ownsRow.lt o1 G1 rfl).2
 have l2 : G2 < w5.heap.size := (World.ownsRow.lt o2 G2 rfl).2
 have hsz : w6.heap.size = w5.heap.size := by rw [e6, sets5_size]
 have hob : ∀ b, b < w5.heap.size → b ≠ R → w6.heap[b]? = w5.heap[b]? := fun b hb hne => by rw [e6]; exact World.heap_setCells_other _ _ _ _ hb hne
 refine ⟨fun i d _ hi hd => ?_, fun a b hab hb => ?_, fun a ha => ?_, fun a ha => ?_⟩
 ·by_cases hik : i < k
  ·obtain ⟨a0, a1, a2, a3, a4, a5, a6⟩ := h.at_ i d (by omega) hik hd
   have hcl : ∀ j, j < 5 * k → w6.cell? ⟨R, j, none⟩ = wr.cell? ⟨R, j, none⟩ := fun j hj => by
    rw [e6, World.cell?_setCells_out R _ _ w5 _ (fun _ _ => .inl (by simp only; omega))]
    exact World.cell?_of_block (e5 R hR)
   simp only [show 2 * i < 2 * k by omega, show 2 * i + 1 < 2 * k by omega, if_true]
   have b1 := h.lt (2 * i) (by omega)
   have b2 := h.lt (2 * i + 1) (by omega)
   have c1 := h.gt (2 * i) (by omega)
   have c2 := h.gt (2 * i + 1) (by omega)
   refine ⟨(hcl _ (by omega)).trans a0, (hcl _ (by omega)).trans a1, (hcl _ (by omega)).trans a2, (hcl _ (by omega)).trans a3, (hcl _ (by omega)).trans a4, a5.same fun b hb => ?_, a6.same fun b hb => ?_⟩
   ·have : g (2 * i) = b := by simpa [Value.ownBlock] using hb
    rw [← this, hob _ (by omega) (by omega), e5 _ b1]
   ·have : g (2 * i + 1) = b := by simpa [Value.ownBlock] using hb
    rw [← this, hob _ (by omega) (by omega), e5 _ b2]
  ·obtain rfl : i = k := by omega
   rw [hc] at hd
   injection hd with hd
   subst hd
   simp only [show ¬ 2 * i < 2 * i by omega, show ¬ 2 * i + 1 < 2 * i by omega, show ¬ 2 * i + 1 = 2 * i by omega, if_true, if_false]
   have hcs := World.rangeAt_setCells_same w5 R (i * 5) [.slice (some ⟨G1, 0, none⟩) c.key.length (c.key.length + 3), .int .i64 c.kd, .slice (some ⟨G2, 0, none⟩) c.val.length (c.val.length + 3), .int .i64 c.pg, .int .i64 c.ct] (hr.there (by omega))
   rw [← e6] at hcs
   refine ⟨hcs 0 _ rfl, hcs 1 _ rfl, hcs 2 _ rfl, hcs 3 _ rfl, hcs 4 _ rfl, o1.same fun b hb => ?_, o2.same fun b hb => ?_⟩
   ·have : G1 = b := by simpa [Value.ownBlock] using hb
    rw [← this]
    exact hob _ l1 (by omega)
   ·have : G2 = b := by simpa [Value.ownBlock] using hb
    rw [← this]
    exact hob _ l2 (by omega)
 ·by_cases hb2 : b < 2 * k
  ·have := h.mono a b hab hb2
   simp only [show a < 2 * k by omega, hb2, if_true]
   exact this
  ·by_cases ha2 : a < 2 * k
   ·have := h.lt a ha2
    simp only [ha2, hb2, if_true, if_false]
    split <;> omega
   ·obtain rfl : a = 2 * k := by omega
    obtain rfl : b = 2 * k + 1 := by omega
    simp only [hb2, ha2, show ¬ 2 * k + 1 = 2 * k by omega, if_true, if_false]
    exact h2
 ·by_cases ha2 : a < 2 * k
  ·simp only [ha2, if_true]
   exact h.gt a ha2
  ·simp only [ha2, if_false]
   split <;> omega
 ·rw [hsz]
  by_cases ha2 : a < 2 * k
  ·simp only [ha2, if_true]
   have := h.lt a ha2
   omega
  ·simp only [ha2, if_false]
   split <;> assumption
def LentC (w : World) (R : Nat) (cs : List Cl) (n : Nat) : Prop :=
 ∃ g, LnC w R cs g 0 n ∧ RowC w R (n + 2) ∧ w.cell? ⟨R, n * 5 + 1, none⟩ = some (.int .i64 (-7)) ∧ w.cell? ⟨R, (n + 1) * 5 + 1, none⟩ = some (.int .i64 (-8))
theorem lentC_any (ao : Option Addr) (n cap : Nat) (cs : List Cl) (w : World) (hs : SlC w ao n cap cs) (hn : n ≤ 900000) :
  Calls Tryz.prog 30 #[.slice ao n cap] w fun e w' => e = .returned (.slice (some ⟨w.heap.size, 0, none⟩) n (n + 2)) ∧ Hid (LentC w' w.heap.size cs n) ∧ Hid (Below w.heap.size w w') := by
 obtain ⟨i0, hi, hz0, hz1, hz2⟩ := info_parts infoC
 have HS := zaa hs
 have HLEN := zaa hs.hlen
 clear hs
 go_enter Tryz.func30, Tryz.ntmps30
 go_wp2_with (at_make; refine wpList_make_full _ rfl _ _ 43 rfl w.heap.size 39 i0 _ 5 Tryz.underlying43 hi hz0 hz1 .i64 .i64 (n + 2) (n + 2) (n + 2) rfl rfl rfl rfl (by rw [hz2]; omega) (by unfold maxLen; omega) Lr ?_)
 intro w1 hown1 hg1
 have hb1 : Below w.heap.size w w1 := Br.grown hg1 Lr (fun k hk => by cases hk)
 have hR1 : RowC w1 w.heap.size (n + 2) := by
  rcases hown1.2 with ⟨h, _⟩ | ⟨g, c, cur, h, _, hh, _, _, hs, ht⟩
  ·cases h
  ·cases h
   exact ⟨cur, hh, by omega⟩
 have HR1 := zaa hR1
 have HB1 := zaa hb1
 obtain ⟨R, hR⟩ : ∃ R, w.heap.size = R := ⟨_, rfl⟩
 rw [hR] at HR1 HB1 ⊢
 clear hown1 hg1 hb1 hR1 hi hz0 hz1 hz2
 go_wp2_with fail
 go_loopw [5] (fun i wr => ∃ (k : Nat) (g : Nat → Nat), k ≤ n ∧ i = .int .i64 k ∧ Hid (LnC wr R cs g 0 k) ∧ Hid (RowC wr R (n + 2)) ∧ Hid (Below R w wr)) (fun i _ => n - (intOf i).toNat)
 case atStart => exact ⟨0, fun _ => 0, by omega, rfl, zaa ⟨fun i c _ h _ => by omega, fun a b _ h => by omega, fun a h => by omega, fun a h => by omega⟩, HR1, HB1⟩
 case round =>
  clear HR1 HB1
  obtain ⟨k, g, hk, rfl, HL, HR, HB⟩ := hrel
  have bk : (k : Int) ≤ 900000 := by omega
  by_cases hlt : k < n
  ·have hltI : (k : Int) < (n : Int) := by omega
   obtain ⟨b, off, c, ka, kc, va, vc, rfl, hbl, hci, c0, c1, c2, c3, c4, hk1, hv1⟩ := HS.out.item k hlt
   have hbR : b < R := by rw [← hR]; exact hbl
   have hRr : R < wr.heap.size := HR.out.lt
   have hsr := HB.out.size
   have d0 := (HB.out.cell (p := ⟨b, off + k * 5, none⟩) hbR).trans c0
   have d1 := (HB.out.cell (p := ⟨b, off + k * 5 + 1, none⟩) hbR).trans c1
   have d2 := (HB.out.cell (p := ⟨b, off + k * 5 + 2, none⟩) hbR).trans c2
   have d3 := (HB.out.cell (p := ⟨b, off + k * 5 + 3, none⟩) hbR).trans c3
   have d4 := (HB.out.cell (p := ⟨b, off + k * 5 + 4, none⟩) hbR).trans c4
   obtain ⟨key, kd, val, pg, ct⟩ := c
   simp only at d0 d1 d2 d3 d4 hk1 hv1
   obtain ⟨kn, hkn⟩ : ∃ kn, key.length = kn := ⟨_, rfl⟩
   obtain ⟨vn, hvn⟩ : ∃ vn, val.length = vn := ⟨_, rfl⟩
   rw [hkn] at hk1 d0
   rw [hvn] at hv1 d2
   have hkr := hk1.hroom
   have hvr := hv1.hroom
   have hbr : b < wr.heap.size := by omega
   obtain ⟨x, hx⟩ : ∃ x, wr.alloc (.cells #[.slice ka kn kc, .int .i64 kd, .slice va vn vc, .int .i64 pg, .int .i64 ct] 39) = x := ⟨_, rfl⟩
   have hbx : Below wr.heap.size wr x := by rw [← hx]; exact zac Br Lr _
   have hxs : x.heap.size = wr.heap.size + 1 := by rw [← hx]; simp
   have hc5 : C5 x wr.heap.size (.slice ka kn kc) (.int .i64 kd) (.slice va vn vc) (.int .i64 pg) (.int .i64 ct) := by rw [← hx]; exact C5.box wr _ _ _ _ _
   obtain ⟨s, hs⟩ : ∃ s, wr.heap.size = s := ⟨_, rfl⟩
   have HSK : Hid (∀ u, Below R w u → Sl u ka kn kc key) := zaa fun u hu => hk1.on (by omega) hu
   have HSV : Hid (∀ u, Below R w u → Sl u va vn vc val) := zaa fun u hu => hv1.on (by omega) hu
   have HWX : Hid (Below R w x) := zaa (HB.out.trans (hbx.mono (by omega)))
   have HD2 : Hid (∀ u, Below R w u → u.cell? ⟨b, off + k * 5 + 2, none⟩ = some (.slice va vn vc)) := zaa fun u hu => (hu.cell (p := ⟨b, off + k * 5 + 2, none⟩) hbR).trans (by rw [← hvn]; exact c2)
   have HL1 := zaa (lent_any ka kn kc key x (HSK.out x HWX.out))
   have HL2 : Hid (∀ u, Below R w u → _) := zaa fun u hu => lent_any va vn vc val u (HSV.out u hu)
   rw [hxs, hs] at HL1
   rw [hs] at hc5 hxs hRr hbr
   have HC5 := zaa hc5
   have HBX := zaa hbx
   obtain ⟨y0, y1, y2, y3, y4⟩ := hc5.cells
   have e0 := (hbx.cell (p := ⟨b, off + k * 5, none⟩) (by rw [hs]; exact hbr)).trans d0
   have hne : b ≠ s := by omega
   have hne' : ¬ s = b := by omega
   clear c0 c1 c2 c3 c4 hk1 hv1 hc5 hbx
   go_wp2_with (go_at_call 68; refine HL1.out.mono ?_; rintro e w2 ⟨rfl, ho2, hb2⟩; refine Hid.out ?_)
   apply zaa
   clear HL1 hx d0 d1 d2 d3 d4 e0 y0 y1 y2 y3 y4
   have hb2' : Below x.heap.size x w2 := by rw [hxs]; exact hb2
   have HO2 := zaa ho2
   have hC2 : C5 w2 s (.slice ka kn kc) (.int .i64 kd) (.slice va vn vc) (.int .i64 pg) (.int .i64 ct) := zaf HC5.out hb2'
   have hx2 : s + 1 ≤ w2.heap.size := by have := hb2.size; omega
   have HB2 : Hid (Below R w w2) := zaa (HWX.out.trans (hb2.mono (by omega)))
   have e2 := HD2.out w2 HB2.out
   obtain ⟨y0, y1, y2, y3, y4⟩ := hC2.cells
   obtain ⟨f0, f1, f2, f3, f4⟩ := hC2.free
   obtain ⟨X, hX⟩ : ∃ X, Value.slice (some ⟨s + 1, 0, none⟩) kn (kn + 3) = X := ⟨_, rfl⟩
   have HB3 : Hid (Below R w (w2.setCell ⟨s, 0, none⟩ X)) := zaa (HB2.out.setCell (p := ⟨s, 0, none⟩) (by show R ≤ s; omega) _)
   have hz3 : (w2.setCell ⟨s, 0, none⟩ X).heap.size = w2.heap.size := by simp
   have HC3 := zaa (hC2.set X).1
   have HL3 := zaa (HL2.out _ HB3.out)
   rw [hz3] at HL3
   subst hX
   clear HL2 hC2 HC5 HD2
   go_wp2_with (go_at_call 68; refine HL3.out.mono ?_; rintro e w4 ⟨rfl, ho4, hb4⟩; refine Hid.out ?_)
   apply zaa
   obtain ⟨G2, hG2⟩ : ∃ G, w2.heap.size = G := ⟨_, rfl⟩
   have hG1 : s + 1 < G2 := by rw [← hG2]; exact (World.ownsRow.lt HO2.out (s + 1) rfl).2
   rw [hG2] at ho4 hb4 hz3
   try rw [hG2]
   have hC4 := zaf HC3.out (by rw [hz3]; exact hb4 : Below (w2.setCell ⟨s, 0, none⟩ (.slice (some ⟨s + 1, 0, none⟩) kn (kn + 3))).heap.size _ w4)
   have h54 : C5 w4 s (.slice (some ⟨s + 1, 0, none⟩) kn (kn + 3)) (.int .i64 kd) (.slice va vn vc) (.int .i64 pg) (.int .i64 ct) := hC4
   clear y0 y1 y2 y3 y4 f0 f1 f2 f3 f4 e2 hC4
   obtain ⟨y0, y1, y2, y3, y4⟩ := h54.cells
   obtain ⟨f0, f1, f2, f3, f4⟩ := h54.free
   obtain ⟨Y, hY⟩ : ∃ Y, Value.slice (some ⟨G2, 0, none⟩) vn (vn + 3) = Y := ⟨_, rfl⟩
   have hE3 : ∀ b', b' < G2 → b' ≠ s → (w4.setCell ⟨s, 2, none⟩ Y).heap[b']? = w2.heap[b']? := fun b' h1 h2 => by
    rw [Below.heap_setCell _ _ _ _ (by show b' ≠ s; exact h2), hb4.block b' (by omega), Below.heap_setCell _ _ _ _ (by show b' ≠ s; exact h2)]
   have HE5 : Hid (∀ b', b' < wr.heap.size → (w4.setCell ⟨s, 2, none⟩ Y).heap[b']? = wr.heap[b']?) := zaa fun b' hb' => by
    rw [hE3 b' (by omega) (by omega), hb2.block b' (by omega), HBX.out.block b' hb']
   have HO1 : Hid (OwnB (w4.setCell ⟨s, 2, none⟩ Y) R (.slice (some ⟨s + 1, 0, none⟩) (kn + 3) (kn + 3)) (key ++ [71, 72, 73])) := zaa ((HO2.out.low (by omega)).same fun b' hb' => by
    have : s + 1 = b' := by simpa [Value.ownBlock] using hb'
    rw [← this]
    exact hE3 _ hG1 (by omega))
   have HO4 : Hid (OwnB (w4.setCell ⟨s, 2, none⟩ Y) R (.slice (some ⟨G2, 0, none⟩) (vn + 3) (vn + 3)) (val ++ [71, 72, 73])) := zaa ((ho4.low (by omega)).same fun b' hb' => by
    have : G2 = b' := by simpa [Value.ownBlock] using hb'
    rw [← this]
    exact Below.heap_setCell _ _ _ _ (by show G2 ≠ s; omega))
   have HR5 : Hid (RowC (w4.setCell ⟨s, 2, none⟩ Y) R (n + 2)) := zaa (by
    obtain ⟨cur, h1, h2⟩ := HR.out
    exact ⟨cur, (HE5.out R (by omega)).trans h1, h2⟩)
   have HB5 : Hid (Below R w (w4.setCell ⟨s, 2, none⟩ Y)) := zaa (((HB3.out.trans (hb4.mono (by omega)))).setCell (p := ⟨s, 2, none⟩) (by show R ≤ s; omega) _)
   subst hY
   clear ho2 hb2 hb2' ho4 hb4 h54 HC3 HL3 hE3 HO2 HB3 HB2 hz3 HBX HWX HSK HSV
   go_wp2_with (refine put_cell (by rfl) _ _ (by rfl) R (k * 5) (n + 2) (some ⟨s + 1, 0, none⟩) (some ⟨G2, 0, none⟩) kn (kn + 3) vn (vn + 3) kd pg ct HR5.out (by rfl) (by rfl) (by omega) ?_; intro w6 HU; refine Hid.out ?_)
   apply zaa
   have HN := zaa (HL.out.step (n := n) HR5.out hlt hci (by omega) HE5.out (by omega) hG1 (by rw [hkn]; exact HO1.out) (by rw [hvn]; exact HO4.out) (by simp only [hkn, hvn]; exact HU.out))
   have HR6 : Hid (RowC w6 R (n + 2)) := zaa (by rw [HU.out]; exact RowC.sets _ _ _ HR5.out)
   have HB6 : Hid (Below R w w6) := zaa (by rw [HU.out]; exact HB5.out.trans (zdm (j := 0) _ _ _))
   clear HU HO1 HO4 HR5 HB5 HE5 HL HR HB y0 y1 y2 y3 y4 f0 f1 f2 f3 f4
   go_wp2
   go_roundw
   case rel => exact ⟨k + 1, _, by omega, by go_num, HN, HR6, HB6⟩
   case measure => simp [intOf]; omega
  ·obtain rfl : k = n := by omega
   have hRr := HR.out.lt
   go_wp2_with (refine put_cell (by rfl) _ _ (by rfl) R (k * 5) (k + 2) none none 0 0 0 0 (-7) 0 0 HR.out (by rfl) (by rfl) (by omega) ?_; intro w2 HU2; refine Hid.out ?_)
   apply zaa
   have HR2 : Hid (RowC w2 R (k + 2)) := zaa (by rw [HU2.out]; exact RowC.sets _ _ _ HR.out)
   go_wp2_with (refine put_cell (by rfl) _ _ (by rfl) R ((k + 1) * 5) (k + 2) none none 0 0 0 0 (-8) 0 0 HR2.out (by rfl) (by rfl) (by omega) ?_; intro w3 HU3; refine Hid.out ?_)
   apply zaa
   have HE : Hid (LentC w3 R cs k ∧ Below R w w3) := zaa (by
    have hr2 := World.rangeAt_setCells_same wr R (k * 5) [.slice none 0 0, .int .i64 (-7), .slice none 0 0, .int .i64 0, .int .i64 0] (HR.out.there (by omega))
    have hr3 := World.rangeAt_setCells_same w2 R ((k + 1) * 5) [.slice none 0 0, .int .i64 (-8), .slice none 0 0, .int .i64 0, .int .i64 0] (HR2.out.there (by omega))
    rw [← HU2.out] at hr2
    rw [← HU3.out] at hr3
    have ho : ∀ j, j < (k + 1) * 5 → w3.cell? ⟨R, j, none⟩ = w2.cell? ⟨R, j, none⟩ := fun j hj => by
     rw [HU3.out]; exact World.cell?_setCells_out R _ _ w2 _ (fun _ _ => .inl (by simp only; omega))
    have ho2 : ∀ j, j < k * 5 → w2.cell? ⟨R, j, none⟩ = wr.cell? ⟨R, j, none⟩ := fun j hj => by
     rw [HU2.out]; exact World.cell?_setCells_out R _ _ wr _ (fun _ _ => .inl (by simp only; omega))
    have hz2 : w2.heap.size = wr.heap.size := by rw [HU2.out, sets5_size]
    have hz3 : w3.heap.size = w2.heap.size := by rw [HU3.out, sets5_size]
    refine ⟨⟨g, HL.out.keep Lr (by omega) (fun j hj => (ho j (by omega)).trans (ho2 j (by omega))) (fun a _ ha => ?_), by rw [HU3.out]; exact RowC.sets _ _ _ HR2.out, (ho _ (by omega)).trans (hr2 1 _ rfl), hr3 1 _ rfl⟩, ?_⟩
    ·have h1 := HL.out.lt a ha
     have h2 := HL.out.gt a ha
     rw [HU3.out, World.heap_setCells_other _ _ _ _ (by omega) (by omega), HU2.out, World.heap_setCells_other _ _ _ _ (by omega) (by omega)]
    ·rw [HU3.out, HU2.out]
     exact (HB.out.trans (zdm (j := 0) _ _ _)).trans (zdm (j := 0) _ _ _))
   clear HU2 HU3 HR HR2 HL HB
   go_wp2
   go_ret
   rw [hR]
   exact ⟨rfl, zaa HE.out.1, zaa HE.out.2⟩
theorem LnC.drew {w : World} {R lo k : Nat} {cs : List Cl} {g : Nat → Nat} (h : LnC w R cs g lo k) (q : Nat) : LnC (w.drewN q) R cs g lo k :=
 h.keep Lr Lr (fun _ _ => rfl) (fun _ _ _ => rfl)
theorem grown_row {w w' : World} {R N g : Nat} (h : RowC w R N) (hg : w.grownBy w' (some g)) (hne : R ≠ g) : RowC w' R N := by
 obtain ⟨cur, h1, h2⟩ := h
 exact ⟨cur, (hg.block R (zag h1) (by simpa using hne)).trans h1, h2⟩
theorem grown_of_below {w w' : World} {row : Option Nat} (h : Below w.heap.size w w') : w.grownBy w' row := ⟨h.os, h.tape, h.output, h.size, fun k hk _ => h.block k hk⟩
theorem asLent_on (g B n : Nat) (bo : Option Addr) (d : Nat) (l : List Int) (w : World) (ho : OwnB w B (.slice (some ⟨g, 0, none⟩) (n + 3) (n + 3)) (l ++ [71, 72, 73])) (hb : Sl w bo n d l) (hbig : n + 3 ≤ 140737488355328) :
  ∀ u, Below w.heap.size w u → Calls Tryz.prog 73 #[.slice (some ⟨g, 0, none⟩) n (n + 3), .slice bo n d] u fun e w' => e = .returned (.bool true) ∧ w.grownBy w' (some g) := fun u hu =>
 (asLent_any g B n bo d l u (ho.on Lr hu) (hb.on Lr hu) hbig).mono fun _ _ h => ⟨h.1, zcy (grown_of_below hu) h.2⟩
theorem app_grown {ops : Array Oper} {rest : List Oper} {o : Oper} {a : Act} {Q : Exit → Act → World → Prop} (w : World) (hgd : o.guard = none) (s x : Operand)
  (ho : o.op = .call { callee := .builtin .append, args := #[s, x], argTypes := #[37, 37] }) (B : Nat) (l : List Int) (v : Value) (hs : a.eval s = v)
  (hown : OwnB w B v l) (ad : Addr) (m c : Nat) (news : List Int) (hx : a.eval x = .slice (some ad) m c) (hl : news.length = m)
  (hnews : ∀ j, j < m → w.cell? (ad.add j) = some (.int .u8 (news.getD j 0))) (hb : l.length + m ≤ 140737488355328) (hbase : B ≤ w.heap.size)
  (h : ∀ v' w', w.grownBy w' v.ownBlock → wpList Tryz.prog ops Q rest (a.put o.dst v') w') : wpList Tryz.prog ops Q (o :: rest) a w := by
 obtain ⟨i0, hi, hz0, hz1, hz2⟩ := info_parts info5
 refine wpList_append_own w hgd s x 37 ho B 5 i0 (.int .u8 0) 1 1 Tryz.underlying37 hi hz0 hz1 hz2 rfl (by decide) v l.length (By l) hs hown ad m c (By news) hx (by simp [By, hl])
  (fun j u hu => by obtain ⟨h1, h2⟩ := getElem?_By news j u hu; rw [h2]; exact hnews j (by omega)) (By_one news) (by unfold maxLen; omega) (by omega) hbase ?_
 intro v' w' _ h2 _
 exact h v' w' h2
theorem five_cells (w : World) : ∀ j, j < 5 → (w.alloc (.cells #[.int .u8 92, .int .u8 93, .int .u8 94, .int .u8 95, .int .u8 96] 5)).cell? ((⟨w.heap.size, 0, none⟩ : Addr).add j) = some (.int .u8 ([92, 93, 94, 95, 96].getD j 0)) := by
 intro j hj
 rw [Addr.add_lit, Nat.zero_add, cell_of_row _ _ _ _ _ _ (heap_alloc_last w _)]
 have h : j = 0 ∨ j = 1 ∨ j = 2 ∨ j = 3 ∨ j = 4 := by omega
 rcases h with rfl | rfl | rfl | rfl | rfl <;> rfl
theorem own_call (v : Value) (B : Nat) (l : List Int) (w : World) (ho : OwnB w B v l) (hB : B ≤ w.heap.size) (hl : l.length + 5 ≤ 140737488355328) :
  Calls Tryz.prog 78 #[v] w fun e w' => e = .returned (.tuple #[]) ∧ w.grownBy w' v.ownBlock := by
 have HO := zaa ho
 rcases ho.2 with ⟨rfl, hn⟩ | ⟨g, cap, cur, rfl, hg, _, hnc, _, _, _⟩
 ·have hl0 : l = [] := List.eq_nil_of_length_eq_zero hn
  subst hl0
  clear ho
  go_enter Tryz.func78, Tryz.ntmps78
  go_wp2_with fail
  refine wp_loop_rounds 1 ?_
  rw [rounds_succ]
  go_wp2_with (at_builtin; refine app_grown _ rfl _ _ rfl B [] _ rfl (HO.out.alloc _) _ 5 5 [92, 93, 94, 95, 96] rfl rfl (five_cells _) (by simp) (by simp; omega) ?_)
  intro v' w' hg
  have HG := zaa (zcy (World.grownBy_alloc w (.cells #[.int .u8 92, .int .u8 93, .int .u8 94, .int .u8 95, .int .u8 96] 5) none) hg)
  clear hg
  go_wp2
  go_end0
  exact ⟨rfl, HG.out⟩
 ·clear ho
  generalize hn : l.length = n at *
  go_enter Tryz.func78, Tryz.ntmps78
  go_wp2_with fail
  go_loopw [2] (fun i wr => ∃ (k : Nat) (l' : List Int), k ≤ n ∧ i = .int .i64 k ∧ l'.length = n ∧ OwnB wr B (.slice (some ⟨g, 0, none⟩) n cap) l' ∧ w.grownBy wr (some g)) (fun i _ => n - (intOf i).toNat)
  case atStart => exact ⟨0, l, by omega, rfl, hn, HO.out, World.grownBy.refl _ _⟩
  case round =>
   obtain ⟨k, l', hk, rfl, hl', hown, hgr⟩ := hrel
   have hsz := hgr.size
   by_cases hlt : k < n
   ·have hce := zbm hown hl' hlt
    have hfr := own_free hown hl' k
    have ho2 := own_set (x := 91) hown hl' hlt
    have hst : wr.grownBy (wr.setCell ⟨g, k, none⟩ (.int .u8 91)) (some g) := by
     have h' : wr.ownsRow B 5 1 (.slice (some ⟨g, 0, none⟩) n cap) n (By l') := by have := hown; unfold OwnB at this; rw [hl'] at this; exact this
     exact (World.ownsRow.stored h' k (.int .u8 91)).2
    have hg2 := zcy hgr hst
    clear hst hgr hown
    go_wp2
    go_roundw
    case rel => exact ⟨k + 1, l'.set k 91, by omega, by go_num, by simp [hl'], ho2, hg2⟩
    case measure => simp [intOf]; omega
   ·have HG0 := zaa hgr
    clear hgr
    go_wp2_with (at_builtin; refine app_grown _ rfl _ _ rfl B l' _ rfl (hown.alloc _) _ 5 5 [92, 93, 94, 95, 96] rfl rfl (five_cells _) (by omega) (by simp; omega) ?_)
    intro v' w' hg
    have HG := zaa (zcy (zcy HG0.out (World.grownBy_alloc wr (.cells #[.int .u8 92, .int .u8 93, .int .u8 94, .int .u8 95, .int .u8 96] 5) (some g))) hg)
    clear hg
    go_wp2
    go_end0
    exact ⟨rfl, HG.out⟩
def RowE (w : World) (g : Nat) (e : TypeId) (c : Nat) : Prop := ∃ cur : Array Value, w.heap[g]? = some (.cells cur e (0, 0)) ∧ cur.size = c
theorem RowE.there {w : World} {g c : Nat} {e : TypeId} (h : RowE w g e c) {j : Nat} (hj : j < c) : (w.cell? ⟨g, j, none⟩).isSome = true := by
 obtain ⟨cur, h1, h2⟩ := h
 rw [cell_of_row _ _ _ _ _ _ h1]
 simp [h2, hj]
theorem RowE.free {w : World} {g c : Nat} {e : TypeId} (h : RowE w g e c) (j : Nat) : w.frozen? ⟨g, j, none⟩ = false := by
 obtain ⟨cur, h1, h2⟩ := h
 simp [World.frozen?, h1]
theorem RowE.lt {w : World} {g c : Nat} {e : TypeId} (h : RowE w g e c) : g < w.heap.size := by
 obtain ⟨cur, h1, h2⟩ := h
 exact zag h1
theorem RowE.set {w : World} {g c : Nat} {e : TypeId} (h : RowE w g e c) (j : Nat) (v : Value) : RowE (w.setCell ⟨g, j, none⟩ v) g e c := by
 obtain ⟨cur, h1, h2⟩ := h
 exact ⟨_, zam h1, by simpa using h2⟩
theorem RowE.sets {g c : Nat} {e : TypeId} : ∀ (vs : List Value) (j : Nat) (w : World), RowE w g e c → RowE (w.setCells g j vs) g e c
 | [], _, _, h => h
 | v :: r, j, _, h => RowE.sets r (j + 1) _ (h.set j v)
theorem RowE.drewN {w : World} {g c : Nat} {e : TypeId} (h : RowE w g e c) (q : Nat) : RowE (w.drewN q) g e c := h
theorem RowE.on {w w' : World} {g c : Nat} {e : TypeId} (h : RowE w g e c) (hb : w'.heap[g]? = w.heap[g]?) : RowE w' g e c := by
 obtain ⟨cur, h1, h2⟩ := h
 exact ⟨cur, hb.trans h1, h2⟩
theorem RowE.cell {w : World} {g c : Nat} {e : TypeId} (h : RowE w g e c) (vs : List Value) (o : Nat) (ho : o + vs.length ≤ c) (k : Nat) :
  (w.setCells g o vs).cell? ⟨g, k, none⟩ = if o ≤ k ∧ k < o + vs.length then vs[k - o]? else w.cell? ⟨g, k, none⟩ := by
 by_cases hin : o ≤ k ∧ k < o + vs.length
 ·rw [if_pos hin]
  have := World.cell?_setCells_in g vs o w (fun j hj => h.there (by omega)) (k - o) (by omega)
  rw [show o + (k - o) = k by omega] at this
  rw [this]
  simp
 ·rw [if_neg hin]
  exact World.cell?_setCells_out g vs o w ⟨g, k, none⟩ (fun _ _ => by show k < o ∨ o + vs.length ≤ k; omega)
theorem zas (g : Nat) : ∀ (vs : List Value) (j : Nat) (w : World), w.grownBy (w.setCells g j vs) (some g)
 | [], _, _ => ⟨rfl, rfl, rfl, Lr, fun _ _ _ => rfl⟩
 | v :: r, j, w => by
  have h1 : w.grownBy (w.setCell ⟨g, j, none⟩ v) (some g) := ⟨rfl, rfl, rfl, by simp, fun k _ hk => Below.heap_setCell _ _ _ _ (fun e => hk (by rw [e]))⟩
  have h2 := zas g r (j + 1) (w.setCell ⟨g, j, none⟩ v)
  exact ⟨h2.os.trans h1.os, h2.tape.trans h1.tape, h2.output.trans h1.output, zN h1.size h2.size, fun z hz hne => (h2.block z (zO hz h1.size) hne).trans (h1.block z hz hne)⟩
theorem zbj {w w1 w2 : World} {row : Option Nat} (h : w.grownBy w1 row) (k : w1.grownBy w2 row) : w.grownBy w2 row :=
 ⟨k.os.trans h.os, k.tape.trans h.tape, k.output.trans h.output, zN h.size k.size, fun z hz hne => (k.block z (zO hz h.size) hne).trans (h.block z hz hne)⟩
theorem zcr {w w1 : World} {row : Option Nat} (h : w.grownBy w1 row) : w.grownBy w1.drew row := ⟨h.os, h.tape, h.output, h.size, h.block⟩
theorem zcz (w : World) (row : Option Nat) : w.grownBy w row := ⟨rfl, rfl, rfl, Lr, fun _ _ _ => rfl⟩
theorem RowE.own {w : World} {g c n B : Nat} {e : TypeId} {xs : List Value} (h : RowE w g e c) (hc : c ≤ maxLen) (hB : B ≤ g) (hn : n ≤ c) (hx : xs.length = n) (hcell : ∀ i v, xs[i]? = some v → w.cell? ⟨g, i, none⟩ = some v) : w.ownsRow B e 1 (.slice (some ⟨g, 0, none⟩) n c) n xs := by
 obtain ⟨cur, h1, h2⟩ := h
 refine ⟨by omega, .inr ⟨g, c, cur, rfl, hB, h1, hn, hc, by omega, ?_⟩⟩
 rw [Nat.mul_one]
 apply List.ext_getElem?
 intro i
 by_cases hi : i < n
 ·have e1 : xs[i]? = some (xs[i]'(by omega)) := zI _
  have := hcell i _ e1
  rw [cell_of_row _ _ _ _ _ _ h1] at this
  rw [List.getElem?_take_of_lt hi, e1, ← this]
  simp
 ·rw [List.getElem?_eq_none (by simp; omega), List.getElem?_eq_none (by omega)]
theorem zat {w : World} {B n g c : Nat} {e : TypeId} {xs : List Value} (h : w.ownsRow B e 1 (.slice (some ⟨g, 0, none⟩) n c) n xs) : RowE w g e c ∧ B ≤ g ∧ n ≤ c ∧ c ≤ maxLen ∧ xs.length = n ∧ ∀ i v, xs[i]? = some v → w.cell? ⟨g, i, none⟩ = some v := by
 have hl := h.1
 rcases h.2 with ⟨e1, _⟩ | ⟨g', cap, cur, e1, h1, h2, h3, h4, h5, h6⟩
 ·injection e1 with e1 _ _
  cases e1
 ·injection e1 with e1 _ e3
  injection e1 with e1
  injection e1 with e1 _ _
  subst e1
  subst e3
  refine ⟨⟨cur, h2, by omega⟩, h1, h3, h4, by omega, fun i v hv => ?_⟩
  have := h.cellAt i (by have := (zH.1 hv).1; omega)
  rw [this, hv]
theorem moved {xs ys : List Value} {n m i j : Nat} (hx : xs.length = n) (hy : ys.length = m) (hij : i ≤ j) (hj : j ≤ n) {f : Nat → Option Value}
  (h1 : ∀ k, k < i → f k = xs[k]?) (h2 : ∀ k, k < m → f (i + k) = ys[k]?) (h3 : ∀ k, k < n - j → f (i + m + k) = xs[j + k]?) : ∀ k v, (xs.take i ++ ys ++ xs.drop j)[k]? = some v → f k = some v := by
 intro k v hv
 have hti : (xs.take i).length = i := by simp; omega
 by_cases hk : k < i
 ·rw [zM, zL (by omega), List.getElem?_take_of_lt hk] at hv
  rw [h1 k hk, hv]
 ·by_cases hk2 : k < i + m
  ·rw [zM, List.getElem?_append_right (by omega), hti, zL (by omega)] at hv
   have := h2 (k - i) (by omega)
   rw [show i + (k - i) = k by omega] at this
   rw [this, hv]
  ·have hlt := (zH.1 hv).1
   rw [zM, List.getElem?_append_right (by omega), hti, List.getElem?_append_right (by omega), List.getElem?_drop, hy] at hv
   have hkl : k < i + m + (n - j) := by simp at hlt; omega
   have := h3 (k - i - m) (by omega)
   rw [show i + m + (k - i - m) = k by omega] at this
   rw [this, hv]
theorem moved_len {xs ys : List Value} {n m i j : Nat} (hx : xs.length = n) (hy : ys.length = m) (hij : i ≤ j) (hj : j ≤ n) : (xs.take i ++ ys ++ xs.drop j).length = i + m + (n - j) := by
 simp
 omega
theorem copy_wp {ops : Array Oper} {rest : List Oper} {o : Oper} {a : Act} {w : World} {Q : Exit → Act → World → Prop} (hgd : o.guard = none) (d s : Operand) (t t' : TypeId)
  (ho : o.op = .call { callee := .builtin .copy, args := #[d, s], argTypes := #[t, t'] }) (v u : Value) (hd : a.eval d = v) (hs : a.eval s = u) {v' : Value} {w' : World}
  (hr : (Builtin.copy_ #[t, t'] o.type #[v, u]).run Tryz.prog w = .ok v' w') (h : wpList Tryz.prog ops Q rest (a.put o.dst v') w') : wpList Tryz.prog ops Q (o :: rest) a w := by
 refine wpList_plain hgd fun K hK => ?_
 unfold Oper.wp execOp
 simp only [ho, resolve, invoke, builtin, Sem.run_bind, Sem.run_pure, Result.andThen_ok, List.map_toArray, List.map_cons, List.map_nil, hd, hs, hr]
 exact hK _ _ h
theorem copy_step {ops : Array Oper} {o : Oper} {a : Act} {w : World} {K : Act → World → Prop} {Q : Exit → Act → World → Prop} {E : Prop}
  (hg : o.guard = none) (d x : Operand) (dT sT : TypeId) (hop : o.op = Op.call { callee := Callee.builtin Builtin.copy, args := #[d, x], argTypes := #[dT, sT] })
  (v u : Value) (hd : a.eval d = v) (hx : a.eval x = u) {v' : Value} {w' : World} (hr : (Builtin.copy_ #[dT, sT] o.type #[v, u]).run Tryz.prog w = .ok v' w') (hK : K (a.put o.dst v') w') :
  if Region.wanted o (yielded ops a.tmps) = true then Oper.wp Tryz.prog o a w K Q else E := by
 have hw : Region.wanted o (yielded ops a.tmps) = true := by simp [Region.wanted, hg]
 rw [if_pos hw]
 unfold Oper.wp
 simp [execOp, hop, resolve, invoke, builtin, hd, hx, hr, Result.andThen]
 exact hK
theorem zdh {ops : Array Oper} {rest : List Oper} {o : Oper} {a : Act} {w : World} {Q : Exit → Act → World → Prop} (hgd : o.guard = none) (s x : Operand) (t1 t2 : TypeId)
  (ho : o.op = .call { callee := .builtin .append, args := #[s, x], argTypes := #[t1, t2] }) (v u : Value) (hs : a.eval s = v) (hx : a.eval x = u) {v' : Value} {w' : World}
  (hr : (Builtin.append_ #[t1, t2] o.type #[v, u]).run Tryz.prog w = .ok v' w') (h : wpList Tryz.prog ops Q rest (a.put o.dst v') w') : wpList Tryz.prog ops Q (o :: rest) a w := by
 refine wpList_plain hgd fun K hK => ?_
 unfold Oper.wp execOp
 simp only [ho, resolve, invoke, builtin, Sem.run_bind, Sem.run_pure, Result.andThen_ok, List.map_toArray, List.map_cons, List.map_nil, hs, hx, hr]
 exact hK _ _ h
theorem zbz {ops : Array Oper} {rest : List Oper} {o : Oper} {a : Act} {w : World} {Q : Exit → Act → World → Prop} (hgd : o.guard = none) (d : Operand) (t : TypeId)
  (ho : o.op = .call { callee := .builtin .clear, args := #[d], argTypes := #[t] }) (v : Value) (hd : a.eval d = v) {v' : Value} {w' : World}
  (hr : (Builtin.clear_ #[t] o.type #[v]).run Tryz.prog w = .ok v' w') (h : wpList Tryz.prog ops Q rest (a.put o.dst v') w') : wpList Tryz.prog ops Q (o :: rest) a w := by
 refine wpList_plain hgd fun K hK => ?_
 unfold Oper.wp execOp
 simp only [ho, resolve, invoke, builtin, Sem.run_bind, Sem.run_pure, Result.andThen_ok, List.map_toArray, List.map_cons, List.map_nil, hd, hr]
 exact hK _ _ h
theorem clear_none (w : World) (t e ty : TypeId) (ht : Tryz.prog.underlying t = some (.slice e)) (a : Option Addr) (c : Nat) : (Builtin.clear_ #[t] ty #[.slice a 0 c]).run Tryz.prog w = .ok (.tuple #[]) w := by
 cases a <;> simp [Builtin.clear_, run_underlying ht]
end Go.Proofs.YtfgffajgfgifhaaGreatDoor
