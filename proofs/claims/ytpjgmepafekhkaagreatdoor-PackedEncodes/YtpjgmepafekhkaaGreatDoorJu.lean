/- The law's lent (layer 7): cells as their owner hands them in. -/
import Derived.Test.YtpjgmepafekhkaaGreatDoorJm
import Derived.Test.YtpjgmepafekhkaaGreatDoorJr
import Derived.Test.YtpjgmepafekhkaaGreatDoorJl
namespace Go.Proofs.YtpjgmepafekhkaaGreatDoor
open Go.RowKit

set_option maxRecDepth 100000 in
theorem sets5_below {b j : Nat} : ∀ (vs : List Value) (i : Nat) (w : World), Below b w (w.setCells b i vs)
  | [], _, _ => Below.refl _ _
  | v :: r, i, w => ((Below.refl b w).setCell (p := ⟨b, i, none⟩) (Nat.le_refl _) v).trans (sets5_below (j := j) r (i + 1) _)
set_option maxRecDepth 100000 in
theorem sets5_size {b : Nat} : ∀ (vs : List Value) (i : Nat) (w : World), (w.setCells b i vs).heap.size = w.heap.size
  | [], _, _ => rfl
  | v :: r, i, w => by
    show ((w.setCell ⟨b, i, none⟩ v).setCells b (i + 1) r).heap.size = _
    rw [sets5_size r (i + 1)]
    simp
/-- The items from lo up to k stand as they were lent: item i's key in block g (2 i), its value in block g (2 i + 1). -/
structure LnC (w : World) (R : Nat) (cs : List Cl) (g : Nat → Nat) (lo k : Nat) : Prop where
  at_ : ∀ (i : Nat) (c : Cl), lo ≤ i → i < k → cs[i]? = some c →
    w.cell? ⟨R, i * 5, none⟩ = some (.slice (some ⟨g (2 * i), 0, none⟩) c.key.length (c.key.length + 3)) ∧ w.cell? ⟨R, i * 5 + 1, none⟩ = some (.int .i64 c.kd) ∧ w.cell? ⟨R, i * 5 + 2, none⟩ = some (.slice (some ⟨g (2 * i + 1), 0, none⟩) c.val.length (c.val.length + 3)) ∧ w.cell? ⟨R, i * 5 + 3, none⟩ = some (.int .i64 c.pg) ∧ w.cell? ⟨R, i * 5 + 4, none⟩ = some (.int .i64 c.ct) ∧
    OwnB w R (.slice (some ⟨g (2 * i), 0, none⟩) (c.key.length + 3) (c.key.length + 3)) (c.key ++ [71, 72, 73]) ∧ OwnB w R (.slice (some ⟨g (2 * i + 1), 0, none⟩) (c.val.length + 3) (c.val.length + 3)) (c.val ++ [71, 72, 73])
  mono : ∀ a b, a < b → b < 2 * k → g a < g b
  gt : ∀ a, a < 2 * k → R < g a
  lt : ∀ a, a < 2 * k → g a < w.heap.size
set_option maxRecDepth 100000 in
/-- What keeps them. -/
theorem LnC.keep {w w' : World} {R lo lo' k : Nat} {cs : List Cl} {g : Nat → Nat} (h : LnC w R cs g lo k) (hl : lo ≤ lo') (hz : w.heap.size ≤ w'.heap.size) (h1 : ∀ j, j < 5 * k → w'.cell? ⟨R, j, none⟩ = w.cell? ⟨R, j, none⟩) (h2 : ∀ a, 2 * lo' ≤ a → a < 2 * k → w'.heap[g a]? = w.heap[g a]?) : LnC w' R cs g lo' k := by
  refine ⟨fun i c hi hk hc => ?_, h.mono, h.gt, fun a ha => Nat.lt_of_lt_of_le (h.lt a ha) hz⟩
  obtain ⟨a0, a1, a2, a3, a4, a5, a6⟩ := h.at_ i c (by omega) hk hc
  refine ⟨(h1 _ (by omega)).trans a0, (h1 _ (by omega)).trans a1, (h1 _ (by omega)).trans a2, (h1 _ (by omega)).trans a3, (h1 _ (by omega)).trans a4, a5.same fun b hb => ?_, a6.same fun b hb => ?_⟩
  · have : g (2 * i) = b := by simpa [Value.ownBlock] using hb
    rw [← this]
    exact h2 _ (by omega) (by omega)
  · have : g (2 * i + 1) = b := by simpa [Value.ownBlock] using hb
    rw [← this]
    exact h2 _ (by omega) (by omega)
set_option maxRecDepth 100000 in
/-- One more. -/
theorem LnC.step {wr w5 w6 : World} {R k n G1 G2 : Nat} {cs : List Cl} {c : Cl} {g : Nat → Nat} (h : LnC wr R cs g 0 k) (hr : RowC w5 R (n + 2)) (hk : k < n) (hc : cs[k]? = some c) (hR : R < wr.heap.size)
    (e5 : ∀ b, b < wr.heap.size → w5.heap[b]? = wr.heap[b]?) (h1 : wr.heap.size < G1) (h2 : G1 < G2)
    (o1 : OwnB w5 R (.slice (some ⟨G1, 0, none⟩) (c.key.length + 3) (c.key.length + 3)) (c.key ++ [71, 72, 73])) (o2 : OwnB w5 R (.slice (some ⟨G2, 0, none⟩) (c.val.length + 3) (c.val.length + 3)) (c.val ++ [71, 72, 73]))
    (e6 : w6 = w5.setCells R (k * 5) [.slice (some ⟨G1, 0, none⟩) c.key.length (c.key.length + 3), .int .i64 c.kd, .slice (some ⟨G2, 0, none⟩) c.val.length (c.val.length + 3), .int .i64 c.pg, .int .i64 c.ct]) :
    LnC w6 R cs (fun a => if a < 2 * k then g a else if a = 2 * k then G1 else G2) 0 (k + 1) := by
  have l1 : G1 < w5.heap.size := (World.ownsRow.lt o1 G1 rfl).2
  have l2 : G2 < w5.heap.size := (World.ownsRow.lt o2 G2 rfl).2
  have hsz : w6.heap.size = w5.heap.size := by rw [e6, sets5_size]
  have hob : ∀ b, b < w5.heap.size → b ≠ R → w6.heap[b]? = w5.heap[b]? := fun b hb hne => by rw [e6]; exact World.heap_setCells_other _ _ _ _ hb hne
  refine ⟨fun i d _ hi hd => ?_, fun a b hab hb => ?_, fun a ha => ?_, fun a ha => ?_⟩
  · by_cases hik : i < k
    · obtain ⟨a0, a1, a2, a3, a4, a5, a6⟩ := h.at_ i d (by omega) hik hd
      have hcl : ∀ j, j < 5 * k → w6.cell? ⟨R, j, none⟩ = wr.cell? ⟨R, j, none⟩ := fun j hj => by
        rw [e6, World.cell?_setCells_out R _ _ w5 _ (fun _ _ => .inl (by simp only; omega))]
        exact World.cell?_of_block (e5 R hR)
      simp only [show 2 * i < 2 * k by omega, show 2 * i + 1 < 2 * k by omega, if_true]
      have b1 := h.lt (2 * i) (by omega)
      have b2 := h.lt (2 * i + 1) (by omega)
      have c1 := h.gt (2 * i) (by omega)
      have c2 := h.gt (2 * i + 1) (by omega)
      refine ⟨(hcl _ (by omega)).trans a0, (hcl _ (by omega)).trans a1, (hcl _ (by omega)).trans a2, (hcl _ (by omega)).trans a3, (hcl _ (by omega)).trans a4, a5.same fun b hb => ?_, a6.same fun b hb => ?_⟩
      · have : g (2 * i) = b := by simpa [Value.ownBlock] using hb
        rw [← this, hob _ (by omega) (by omega), e5 _ b1]
      · have : g (2 * i + 1) = b := by simpa [Value.ownBlock] using hb
        rw [← this, hob _ (by omega) (by omega), e5 _ b2]
    · obtain rfl : i = k := by omega
      rw [hc] at hd
      injection hd with hd
      subst hd
      simp only [show ¬ 2 * i < 2 * i by omega, show ¬ 2 * i + 1 < 2 * i by omega, show ¬ 2 * i + 1 = 2 * i by omega, if_true, if_false]
      have hcs := World.rangeAt_setCells_same w5 R (i * 5) [.slice (some ⟨G1, 0, none⟩) c.key.length (c.key.length + 3), .int .i64 c.kd, .slice (some ⟨G2, 0, none⟩) c.val.length (c.val.length + 3), .int .i64 c.pg, .int .i64 c.ct] (hr.there (by omega))
      rw [← e6] at hcs
      refine ⟨hcs 0 _ rfl, hcs 1 _ rfl, hcs 2 _ rfl, hcs 3 _ rfl, hcs 4 _ rfl, o1.same fun b hb => ?_, o2.same fun b hb => ?_⟩
      · have : G1 = b := by simpa [Value.ownBlock] using hb
        rw [← this]
        exact hob _ l1 (by omega)
      · have : G2 = b := by simpa [Value.ownBlock] using hb
        rw [← this]
        exact hob _ l2 (by omega)
  · by_cases hb2 : b < 2 * k
    · have := h.mono a b hab hb2
      simp only [show a < 2 * k by omega, hb2, if_true]
      exact this
    · by_cases ha2 : a < 2 * k
      · have := h.lt a ha2
        simp only [ha2, hb2, if_true, if_false]
        split <;> omega
      · obtain rfl : a = 2 * k := by omega
        obtain rfl : b = 2 * k + 1 := by omega
        simp only [hb2, ha2, show ¬ 2 * k + 1 = 2 * k by omega, if_true, if_false]
        exact h2
  · by_cases ha2 : a < 2 * k
    · simp only [ha2, if_true]
      exact h.gt a ha2
    · simp only [ha2, if_false]
      split <;> omega
  · rw [hsz]
    by_cases ha2 : a < 2 * k
    · simp only [ha2, if_true]
      have := h.lt a ha2
      omega
    · simp only [ha2, if_false]
      split <;> assumption
/-- CELLS AS THEY WERE LENT, in the row R. -/
def LentC (w : World) (R : Nat) (cs : List Cl) (n : Nat) : Prop :=
  ∃ g, LnC w R cs g 0 n ∧ RowC w R (n + 2) ∧ w.cell? ⟨R, n * 5 + 1, none⟩ = some (.int .i64 (-7)) ∧ w.cell? ⟨R, (n + 1) * 5 + 1, none⟩ = some (.int .i64 (-8))

set_option maxHeartbeats 2000000 in
set_option maxRecDepth 100000 in
theorem lentC_any (ao : Option Addr) (n cap : Nat) (cs : List Cl) (w : World) (hs : SlC w ao n cap cs) (hn : n ≤ 900000) :
    Calls Tryz.prog 7 #[.slice ao n cap] w fun e w' => e = .returned (.slice (some ⟨w.heap.size, 0, none⟩) n (n + 2)) ∧ Hid (LentC w' w.heap.size cs n) ∧ Hid (Below w.heap.size w w') := by
  obtain ⟨i0, hi, hz0, hz1, hz2⟩ := info_parts infoC
  have HS := hidden hs
  have HLEN := hidden hs.hlen
  clear hs
  go_enter Tryz.func7, Tryz.ntmps7
  go_wp2_with (at_make; refine wpList_make_full _ rfl _ _ 22 rfl w.heap.size 47 i0 _ 5 Tryz.underlying22 hi hz0 hz1 .i64 .i64 (n + 2) (n + 2) (n + 2) rfl rfl rfl rfl (by rw [hz2]; omega) (by unfold maxLen; omega) (Nat.le_refl _) ?_)
  intro w1 hown1 hg1
  have hb1 : Below w.heap.size w w1 := (Below.refl _ _).grown hg1 (Nat.le_refl _) (fun k hk => by cases hk)
  have hR1 : RowC w1 w.heap.size (n + 2) := by
    rcases hown1.2 with ⟨h, _⟩ | ⟨g, c, cur, h, _, hh, _, _, hs, ht⟩
    · cases h
    · cases h
      exact ⟨cur, hh, by omega⟩
  have HR1 := hidden hR1
  have HB1 := hidden hb1
  obtain ⟨R, hR⟩ : ∃ R, w.heap.size = R := ⟨_, rfl⟩
  rw [hR] at HR1 HB1 ⊢
  clear hown1 hg1 hb1 hR1 hi hz0 hz1 hz2
  go_wp2_with fail
  go_loopw [5] (fun i wr => ∃ (k : Nat) (g : Nat → Nat), k ≤ n ∧ i = .int .i64 k ∧ Hid (LnC wr R cs g 0 k) ∧ Hid (RowC wr R (n + 2)) ∧ Hid (Below R w wr)) (fun i _ => n - (intOf i).toNat)
  case atStart => exact ⟨0, fun _ => 0, by omega, rfl, hidden ⟨fun i c _ h _ => by omega, fun a b _ h => by omega, fun a h => by omega, fun a h => by omega⟩, HR1, HB1⟩
  case round =>
    clear HR1 HB1
    obtain ⟨k, g, hk, rfl, HL, HR, HB⟩ := hrel
    have bk : (k : Int) ≤ 900000 := by omega
    by_cases hlt : k < n
    · have hltI : (k : Int) < (n : Int) := by omega
      obtain ⟨b, off, c, ka, kc, va, vc, rfl, hbl, hci, c0, c1, c2, c3, c4, hk1, hv1⟩ := HS.out.item k hlt
      have hbR : b < R := by rw [← hR]; exact hbl
      have hRr : R < wr.heap.size := HR.out.lt
      have hsr := HB.out.size
      have d0 := (HB.out.cell (p := ⟨b, off + k * 5, none⟩) hbR).trans c0
      have d1 := (HB.out.cell (p := ⟨b, off + k * 5 + 1, none⟩) hbR).trans c1
      have d2 := (HB.out.cell (p := ⟨b, off + k * 5 + 2, none⟩) hbR).trans c2
      have d3 := (HB.out.cell (p := ⟨b, off + k * 5 + 3, none⟩) hbR).trans c3
      have d4 := (HB.out.cell (p := ⟨b, off + k * 5 + 4, none⟩) hbR).trans c4
      obtain ⟨key, kd, val, pg, ct⟩ := c
      simp only at d0 d1 d2 d3 d4 hk1 hv1
      obtain ⟨kn, hkn⟩ : ∃ kn, key.length = kn := ⟨_, rfl⟩
      obtain ⟨vn, hvn⟩ : ∃ vn, val.length = vn := ⟨_, rfl⟩
      rw [hkn] at hk1 d0
      rw [hvn] at hv1 d2
      have hkr := hk1.hroom
      have hvr := hv1.hroom
      have hbr : b < wr.heap.size := by omega
      obtain ⟨x, hx⟩ : ∃ x, wr.alloc (.cells #[.slice ka kn kc, .int .i64 kd, .slice va vn vc, .int .i64 pg, .int .i64 ct] 47) = x := ⟨_, rfl⟩
      have hbx : Below wr.heap.size wr x := by rw [← hx]; exact bl_al (Below.refl _ _) (Nat.le_refl _) _
      have hxs : x.heap.size = wr.heap.size + 1 := by rw [← hx]; simp
      have hc5 : C5 x wr.heap.size (.slice ka kn kc) (.int .i64 kd) (.slice va vn vc) (.int .i64 pg) (.int .i64 ct) := by rw [← hx]; exact C5.box wr _ _ _ _ _
      obtain ⟨s, hs⟩ : ∃ s, wr.heap.size = s := ⟨_, rfl⟩
      have HSK : Hid (∀ u, Below R w u → Sl u ka kn kc key) := hidden fun u hu => hk1.on (by omega) hu
      have HSV : Hid (∀ u, Below R w u → Sl u va vn vc val) := hidden fun u hu => hv1.on (by omega) hu
      have HWX : Hid (Below R w x) := hidden (HB.out.trans (hbx.mono (by omega)))
      have HD2 : Hid (∀ u, Below R w u → u.cell? ⟨b, off + k * 5 + 2, none⟩ = some (.slice va vn vc)) := hidden fun u hu => (hu.cell (p := ⟨b, off + k * 5 + 2, none⟩) hbR).trans (by rw [← hvn]; exact c2)
      have HL1 := hidden (lent_any ka kn kc key x (HSK.out x HWX.out))
      have HL2 : Hid (∀ u, Below R w u → _) := hidden fun u hu => lent_any va vn vc val u (HSV.out u hu)
      rw [hxs, hs] at HL1
      rw [hs] at hc5 hxs hRr hbr
      have HC5 := hidden hc5
      have HBX := hidden hbx
      obtain ⟨y0, y1, y2, y3, y4⟩ := hc5.cells
      have e0 := (hbx.cell (p := ⟨b, off + k * 5, none⟩) (by rw [hs]; exact hbr)).trans d0
      have hne : b ≠ s := by omega
      have hne' : ¬ s = b := by omega
      clear c0 c1 c2 c3 c4 hk1 hv1 hc5 hbx
      go_wp2_with (first | (go_at_call 14; refine HL1.out.mono ?_; rintro e w2 ⟨rfl, ho2, hb2⟩; refine Hid.out ?_))
      apply hidden
      clear HL1 hx d0 d1 d2 d3 d4 e0 y0 y1 y2 y3 y4
      have hb2' : Below x.heap.size x w2 := by rw [hxs]; exact hb2
      have HO2 := hidden ho2
      have hC2 : C5 w2 s (.slice ka kn kc) (.int .i64 kd) (.slice va vn vc) (.int .i64 pg) (.int .i64 ct) := box_on HC5.out hb2'
      have hx2 : s + 1 ≤ w2.heap.size := by have := hb2.size; omega
      have HB2 : Hid (Below R w w2) := hidden (HWX.out.trans (hb2.mono (by omega)))
      have e2 := HD2.out w2 HB2.out
      obtain ⟨y0, y1, y2, y3, y4⟩ := hC2.cells
      obtain ⟨f0, f1, f2, f3, f4⟩ := hC2.free
      obtain ⟨X, hX⟩ : ∃ X, Value.slice (some ⟨s + 1, 0, none⟩) kn (kn + 3) = X := ⟨_, rfl⟩
      have HB3 : Hid (Below R w (w2.setCell ⟨s, 0, none⟩ X)) := hidden (HB2.out.setCell (p := ⟨s, 0, none⟩) (by show R ≤ s; omega) _)
      have hz3 : (w2.setCell ⟨s, 0, none⟩ X).heap.size = w2.heap.size := by simp
      have HC3 := hidden (hC2.set X).1
      have HL3 := hidden (HL2.out _ HB3.out)
      rw [hz3] at HL3
      subst hX
      clear HL2 hC2 HC5 HD2
      go_wp2_with (first | (go_at_call 14; refine HL3.out.mono ?_; rintro e w4 ⟨rfl, ho4, hb4⟩; refine Hid.out ?_))
      apply hidden
      obtain ⟨G2, hG2⟩ : ∃ G, w2.heap.size = G := ⟨_, rfl⟩
      have hG1 : s + 1 < G2 := by rw [← hG2]; exact (World.ownsRow.lt HO2.out (s + 1) rfl).2
      rw [hG2] at ho4 hb4 hz3
      try rw [hG2]
      have hC4 := box_on HC3.out (by rw [hz3]; exact hb4 : Below (w2.setCell ⟨s, 0, none⟩ (.slice (some ⟨s + 1, 0, none⟩) kn (kn + 3))).heap.size _ w4)
      have h54 : C5 w4 s (.slice (some ⟨s + 1, 0, none⟩) kn (kn + 3)) (.int .i64 kd) (.slice va vn vc) (.int .i64 pg) (.int .i64 ct) := hC4
      clear y0 y1 y2 y3 y4 f0 f1 f2 f3 f4 e2 hC4
      obtain ⟨y0, y1, y2, y3, y4⟩ := h54.cells
      obtain ⟨f0, f1, f2, f3, f4⟩ := h54.free
      obtain ⟨Y, hY⟩ : ∃ Y, Value.slice (some ⟨G2, 0, none⟩) vn (vn + 3) = Y := ⟨_, rfl⟩
      have hE3 : ∀ b', b' < G2 → b' ≠ s → (w4.setCell ⟨s, 2, none⟩ Y).heap[b']? = w2.heap[b']? := fun b' h1 h2 => by
        rw [Below.heap_setCell _ _ _ _ (by show b' ≠ s; exact h2), hb4.block b' (by omega), Below.heap_setCell _ _ _ _ (by show b' ≠ s; exact h2)]
      have HE5 : Hid (∀ b', b' < wr.heap.size → (w4.setCell ⟨s, 2, none⟩ Y).heap[b']? = wr.heap[b']?) := hidden fun b' hb' => by
        rw [hE3 b' (by omega) (by omega), hb2.block b' (by omega), HBX.out.block b' hb']
      have HO1 : Hid (OwnB (w4.setCell ⟨s, 2, none⟩ Y) R (.slice (some ⟨s + 1, 0, none⟩) (kn + 3) (kn + 3)) (key ++ [71, 72, 73])) := hidden ((HO2.out.low (by omega)).same fun b' hb' => by
        have : s + 1 = b' := by simpa [Value.ownBlock] using hb'
        rw [← this]
        exact hE3 _ hG1 (by omega))
      have HO4 : Hid (OwnB (w4.setCell ⟨s, 2, none⟩ Y) R (.slice (some ⟨G2, 0, none⟩) (vn + 3) (vn + 3)) (val ++ [71, 72, 73])) := hidden ((ho4.low (by omega)).same fun b' hb' => by
        have : G2 = b' := by simpa [Value.ownBlock] using hb'
        rw [← this]
        exact Below.heap_setCell _ _ _ _ (by show G2 ≠ s; omega))
      have HR5 : Hid (RowC (w4.setCell ⟨s, 2, none⟩ Y) R (n + 2)) := hidden (by
        obtain ⟨cur, h1, h2⟩ := HR.out
        exact ⟨cur, (HE5.out R (by omega)).trans h1, h2⟩)
      have HB5 : Hid (Below R w (w4.setCell ⟨s, 2, none⟩ Y)) := hidden (((HB3.out.trans (hb4.mono (by omega)))).setCell (p := ⟨s, 2, none⟩) (by show R ≤ s; omega) _)
      subst hY
      clear ho2 hb2 hb2' ho4 hb4 h54 HC3 HL3 hE3 HO2 HB3 HB2 hz3 HBX HWX HSK HSV
      go_wp2_with (refine put_cell (by rfl) _ _ (by rfl) R (k * 5) (n + 2) (some ⟨s + 1, 0, none⟩) (some ⟨G2, 0, none⟩) kn (kn + 3) vn (vn + 3) kd pg ct HR5.out (by rfl) (by rfl) (by omega) ?_; intro w6 HU; refine Hid.out ?_)
      apply hidden
      have HN := hidden (HL.out.step (n := n) HR5.out hlt hci (by omega) HE5.out (by omega) hG1 (by rw [hkn]; exact HO1.out) (by rw [hvn]; exact HO4.out) (by simp only [hkn, hvn]; exact HU.out))
      have HR6 : Hid (RowC w6 R (n + 2)) := hidden (by rw [HU.out]; exact RowC.sets _ _ _ HR5.out)
      have HB6 : Hid (Below R w w6) := hidden (by rw [HU.out]; exact HB5.out.trans (sets5_below (j := 0) _ _ _))
      clear HU HO1 HO4 HR5 HB5 HE5 HL HR HB y0 y1 y2 y3 y4 f0 f1 f2 f3 f4
      go_wp2
      go_roundw
      case rel => exact ⟨k + 1, _, by omega, by go_num, HN, HR6, HB6⟩
      case measure => simp [intOf]; omega
    · obtain rfl : k = n := by omega
      have hRr := HR.out.lt
      go_wp2_with (refine put_cell (by rfl) _ _ (by rfl) R (k * 5) (k + 2) none none 0 0 0 0 (-7) 0 0 HR.out (by rfl) (by rfl) (by omega) ?_; intro w2 HU2; refine Hid.out ?_)
      apply hidden
      have HR2 : Hid (RowC w2 R (k + 2)) := hidden (by rw [HU2.out]; exact RowC.sets _ _ _ HR.out)
      go_wp2_with (refine put_cell (by rfl) _ _ (by rfl) R ((k + 1) * 5) (k + 2) none none 0 0 0 0 (-8) 0 0 HR2.out (by rfl) (by rfl) (by omega) ?_; intro w3 HU3; refine Hid.out ?_)
      apply hidden
      have HE : Hid (LentC w3 R cs k ∧ Below R w w3) := hidden (by
        have hr2 := World.rangeAt_setCells_same wr R (k * 5) [.slice none 0 0, .int .i64 (-7), .slice none 0 0, .int .i64 0, .int .i64 0] (HR.out.there (by omega))
        have hr3 := World.rangeAt_setCells_same w2 R ((k + 1) * 5) [.slice none 0 0, .int .i64 (-8), .slice none 0 0, .int .i64 0, .int .i64 0] (HR2.out.there (by omega))
        rw [← HU2.out] at hr2
        rw [← HU3.out] at hr3
        have ho : ∀ j, j < (k + 1) * 5 → w3.cell? ⟨R, j, none⟩ = w2.cell? ⟨R, j, none⟩ := fun j hj => by
          rw [HU3.out]; exact World.cell?_setCells_out R _ _ w2 _ (fun _ _ => .inl (by simp only; omega))
        have ho2 : ∀ j, j < k * 5 → w2.cell? ⟨R, j, none⟩ = wr.cell? ⟨R, j, none⟩ := fun j hj => by
          rw [HU2.out]; exact World.cell?_setCells_out R _ _ wr _ (fun _ _ => .inl (by simp only; omega))
        have hz2 : w2.heap.size = wr.heap.size := by rw [HU2.out, sets5_size]
        have hz3 : w3.heap.size = w2.heap.size := by rw [HU3.out, sets5_size]
        refine ⟨⟨g, HL.out.keep (Nat.le_refl _) (by omega) (fun j hj => (ho j (by omega)).trans (ho2 j (by omega))) (fun a _ ha => ?_), by rw [HU3.out]; exact RowC.sets _ _ _ HR2.out, (ho _ (by omega)).trans (hr2 1 _ rfl), hr3 1 _ rfl⟩, ?_⟩
        · have h1 := HL.out.lt a ha
          have h2 := HL.out.gt a ha
          rw [HU3.out, World.heap_setCells_other _ _ _ _ (by omega) (by omega), HU2.out, World.heap_setCells_other _ _ _ _ (by omega) (by omega)]
        · rw [HU3.out, HU2.out]
          exact (HB.out.trans (sets5_below (j := 0) _ _ _)).trans (sets5_below (j := 0) _ _ _))
      clear HU2 HU3 HR HR2 HL HB
      go_wp2
      go_ret
      rw [hR]
      exact ⟨rfl, hidden HE.out.1, hidden HE.out.2⟩
end Go.Proofs.YtpjgmepafekhkaaGreatDoor

/- The law's asLent (layer 7). -/

namespace Go.Proofs.YtpjgmepafekhkaaGreatDoor
open Go.RowKit

set_option maxRecDepth 100000 in
theorem LnC.drew {w : World} {R lo k : Nat} {cs : List Cl} {g : Nat → Nat} (h : LnC w R cs g lo k) (q : Nat) : LnC (w.drewN q) R cs g lo k :=
  h.keep (Nat.le_refl _) (Nat.le_refl _) (fun _ _ => rfl) (fun _ _ _ => rfl)
set_option maxRecDepth 100000 in
theorem grown_row {w w' : World} {R N g : Nat} (h : RowC w R N) (hg : w.grownBy w' (some g)) (hne : R ≠ g) : RowC w' R N := by
  obtain ⟨cur, h1, h2⟩ := h
  exact ⟨cur, (hg.block R (lt_some h1) (by simpa using hne)).trans h1, h2⟩

set_option maxRecDepth 100000 in
theorem grown_of_below {w w' : World} {row : Option Nat} (h : Below w.heap.size w w') : w.grownBy w' row := ⟨h.os, h.tape, h.output, h.size, fun k hk _ => h.block k hk⟩
set_option maxRecDepth 100000 in
/-- AsLent, in any world that is this one but for new memory. -/
theorem asLent_on (g B n : Nat) (bo : Option Addr) (d : Nat) (l : List Int) (w : World) (ho : OwnB w B (.slice (some ⟨g, 0, none⟩) (n + 3) (n + 3)) (l ++ [71, 72, 73])) (hb : Sl w bo n d l) (hbig : n + 3 ≤ 140737488355328) :
    ∀ u, Below w.heap.size w u → Calls Tryz.prog 19 #[.slice (some ⟨g, 0, none⟩) n (n + 3), .slice bo n d] u fun e w' => e = .returned (.bool true) ∧ w.grownBy w' (some g) := fun u hu =>
  (asLent_any g B n bo d l u (ho.on (Nat.le_refl _) hu) (hb.on (Nat.le_refl _) hu) hbig).mono fun _ _ h => ⟨h.1, grown_trans (grown_of_below hu) h.2⟩

set_option maxHeartbeats 4000000 in
set_option maxRecDepth 100000 in
theorem asLentC_any (R n : Nat) (ao : Option Addr) (cap : Nat) (cs : List Cl) (w : World) (hL : LentC w R cs n) (hs : ∀ u, Below R w u → SlC u ao n cap cs) (hn : n ≤ 900000) (hkv : ∀ c ∈ cs, c.key.length + c.val.length ≤ 35184372088832) :
    Calls Tryz.prog 11 #[.slice (some ⟨R, 0, none⟩) n (n + 2), .slice ao n cap] w fun e w' => e = .returned (.bool true) ∧ Hid (Below R w w') := by
  have HS := hidden hs
  have HKV := hidden hkv
  obtain ⟨g, hLn, hR, m7, m8⟩ := hL
  have HL := hidden hLn
  have HR := hidden hR
  clear hs hkv hLn hR
  go_enter Tryz.func11, Tryz.ntmps11
  go_wp2_with fail
  clear m7 m8
  go_loopw [7, 8] (fun v i wr => ∃ j : Nat, j ≤ n ∧ v = .bool true ∧ i = .int .i64 j ∧ Hid (LnC wr R cs g j n) ∧ Hid (RowC wr R (n + 2)) ∧ Hid (Below R w wr)) (fun _ i _ => n - (intOf i).toNat)
  case atStart => exact ⟨0, by omega, rfl, rfl, HL, HR, hidden (Below.refl _ _)⟩
  case round =>
    clear HL HR
    obtain ⟨j, hj, rfl, rfl, HL, HR, HB⟩ := hrel
    have bj : (j : Int) ≤ 900000 := by omega
    by_cases hlt : j < n
    · have hltI : (j : Int) < (n : Int) := by omega
      have hltJ : (j : Int) < (n : Int) + 2 := by omega
      obtain ⟨b, off, c, ka, kc, va, vc, rfl, hbl, hci, c0, c1, c2, c3, c4, hk1, hv1⟩ := (HS.out wr HB.out).item j hlt
      obtain ⟨a0, a1, a2, a3, a4, a5, a6⟩ := HL.out.at_ j c (Nat.le_refl _) hlt hci
      have g1 := HL.out.gt (2 * j) (by omega)
      have g2 := HL.out.gt (2 * j + 1) (by omega)
      have g3 := HL.out.mono (2 * j) (2 * j + 1) (by omega) (by omega)
      have hkb := HKV.out c (List.mem_of_getElem? hci)
      have HA1 := hidden (asLent_on (g (2 * j)) R c.key.length ka kc c.key wr a5 hk1 (by omega))
      have HA6 := hidden a6
      have HCI := hidden hci
      have HAT := hidden (And.intro a1 (And.intro a2 (And.intro a3 a4)))
      have HRr := HR.out.lt
      have hsz := HB.out.size
      obtain ⟨kn, hkn⟩ : ∃ kn, c.key.length = kn := ⟨_, rfl⟩
      rw [hkn] at HA1 a0 c0 hkb
      obtain ⟨G1, hG1⟩ : ∃ G, g (2 * j) = G := ⟨_, rfl⟩
      obtain ⟨G2, hG2⟩ : ∃ G, g (2 * j + 1) = G := ⟨_, rfl⟩
      rw [hG1] at HA1 a0 g1 g3
      rw [hG2] at HA6 HAT g2 g3
      have HG := hidden (And.intro hG1 hG2)
      clear a1 a2 a3 a4 a5 a6 c1 c2 c3 c4 hk1 hv1 hci hG1 hG2 hkn
      go_wp2_with fail
      go_region_with (first | (go_at_call 19; refine (HA1.out _ ?_).mono ?_; (repeat (first | exact Below.refl _ _ | apply Below.drew | apply below_drewN)); rintro e w2 ⟨rfl, hg2⟩))
      all_goals
        have HB2 : Hid (Below R w w2) := hidden (HB.out.trans (grown_below hg2 (by omega) (fun k hk => by injection hk with hk; omega)))
        obtain ⟨b', off', c', ka', kc', va', vc', hao, hbl', hci', _, _, c2, _, _, _, hv2⟩ := (HS.out w2 HB2.out).item j hlt
        rw [HCI.out] at hci'
        injection hci' with hcc
        subst hcc
        injection hao with hao
        injection hao with h1 h2
        subst h1 h2
        have hO2 : OwnB w2 R (.slice (some ⟨G2, 0, none⟩) (c.val.length + 3) (c.val.length + 3)) (c.val ++ [71, 72, 73]) := World.ownsRow.kept HA6.out hg2 (.inr (by simp [Value.ownBlock]; omega))
        have HA2 := hidden (asLent_on G2 R c.val.length va' vc' c.val w2 hO2 hv2 (by omega))
        have hR2 := grown_row HR.out hg2 (by omega)
        have hcl : ∀ i v, wr.cell? ⟨R, i, none⟩ = some v → w2.cell? ⟨R, i, none⟩ = some v := fun i v h => hg2.cell h (by simp; omega)
        have HAT2 := hidden (And.intro (hcl _ _ HAT.out.1) (And.intro (hcl _ _ HAT.out.2.1) (And.intro (hcl _ _ HAT.out.2.2.1) (hcl _ _ HAT.out.2.2.2))))
        have a2 := HAT2.out.2.1
        have HG12 : Hid (∀ a, 2 * (j + 1) ≤ a → a < 2 * n → w2.heap[g a]? = wr.heap[g a]?) := hidden fun a h1 h2 => by
          have := HL.out.mono (2 * j) a (by omega) h2
          rw [HG.out.1] at this
          exact hg2.block _ (HL.out.lt a h2) (by simp; omega)
        have hsz2 := HB2.out.size
        have hz12 := hg2.size
        obtain ⟨vn, hvn⟩ : ∃ vn, c.val.length = vn := ⟨_, rfl⟩
        rw [hvn] at HA2 a2 c2 hkb
        have HR2 := hidden hR2
        have hRr2 := hR2.lt
        have HCL := hidden hcl
        clear HA1 a0 c0 hg2 hv2 hO2 HA6 HAT hbl' hcl hR2 hvn
        go_wp2_with fail
        go_region_with (first | (go_at_call 19; refine (HA2.out _ ?_).mono ?_; (repeat (first | exact Below.refl _ _ | apply Below.drew | apply below_drewN)); rintro e w3 ⟨rfl, hg3⟩))
        all_goals
          have HB3 : Hid (Below R w w3) := hidden (HB2.out.trans (grown_below hg3 (by omega) (fun k hk => by injection hk with hk; omega)))
          obtain ⟨b3, off3, c3, ka3, kc3, va3, vc3, hao, hbl3, hci', _, d1, _, d3, d4, _, _⟩ := (HS.out w3 HB3.out).item j hlt
          rw [HCI.out] at hci'
          injection hci' with hcc
          subst hcc
          injection hao with hao
          injection hao with h1 h2
          subst h1 h2
          have hcl3 : ∀ i v, w2.cell? ⟨R, i, none⟩ = some v → w3.cell? ⟨R, i, none⟩ = some v := fun i v h => hg3.cell h (by simp; omega)
          have a1 := hcl3 _ _ HAT2.out.1
          have a3 := hcl3 _ _ HAT2.out.2.2.1
          have a4 := hcl3 _ _ HAT2.out.2.2.2
          have HR3 := hidden (grown_row HR2.out hg3 (by omega))
          have HL3 : Hid (LnC w3 R cs g (j + 1) n) := hidden (HL.out.keep (by omega) (by have := hg3.size; omega) (fun i hi => by
              obtain ⟨v, hv⟩ := Option.isSome_iff_exists.1 (HR.out.cell i (by omega))
              rw [hv]
              exact hcl3 _ _ (HCL.out _ _ hv)) (fun a h1 h2 => by
              have := HL.out.mono (2 * j + 1) a (by omega) h2
              rw [HG.out.2] at this
              rw [hg3.block _ (Nat.lt_of_lt_of_le (HL.out.lt a h2) hz12) (by simp; omega)]
              exact HG12.out a h1 h2))
          obtain ⟨kd, hkd⟩ : ∃ kd, c.kd = kd := ⟨_, rfl⟩
          obtain ⟨pg, hpg⟩ : ∃ pg, c.pg = pg := ⟨_, rfl⟩
          obtain ⟨ct, hct⟩ : ∃ ct, c.ct = ct := ⟨_, rfl⟩
          rw [hkd] at a1 d1
          rw [hpg] at a3 d3
          rw [hct] at a4 d4
          clear HA2 a2 c2 hg3 hbl3 hcl3 HCL HG12 HL HR HR2 HB HB2 HAT2 hkd hpg hct
          go_wp2_with fail
          go_quiet (fail)
          go_wp2
          go_roundw
          case rel => exact ⟨j + 1, by omega, by simp, by go_num, hidden (by first | exact HL3.out | exact HL3.out.drew _), hidden (by exact HR3.out), hidden (by first | exact HB3.out | exact bl_dr HB3.out _)⟩
          case measure => simp [intOf]; omega
    · clear HL
      go_wp2_with fail
      go_loopw [11] (fun i wq => ∃ t : Nat, t ≤ n + 2 ∧ i = .int .i64 t ∧ Hid (RowC wq R (n + 2)) ∧ Hid (Below R w wq)) (fun i _ => n + 2 - (intOf i).toNat)
      case atStart => exact ⟨0, by omega, rfl, HR, HB⟩
      case round =>
        clear HR HB
        obtain ⟨t, ht, rfl, HR, HB⟩ := hrel
        have bt : (t : Int) ≤ 900002 := by omega
        by_cases htl : t < n + 2
        · have htI : (t : Int) < (n : Int) + 2 := by omega
          go_wp2_with (refine put_cell (by rfl) _ _ (by rfl) R (t * 5) (n + 2) none none 0 0 0 0 (-9) 0 0 HR.out (by rfl) (by rfl) (by omega) ?_; intro w2 HU2; refine Hid.out ?_)
          apply hidden
          have HR2 : Hid (RowC w2 R (n + 2)) := hidden (by rw [HU2.out]; exact RowC.sets _ _ _ HR.out)
          have HB2 : Hid (Below R w w2) := hidden (by rw [HU2.out]; exact HB.out.trans (sets5_below (j := 0) _ _ _))
          clear HU2 HR HB
          go_wp2
          go_roundw
          case rel => exact ⟨t + 1, by omega, by go_num, HR2, HB2⟩
          case measure => simp [intOf]; omega
        · have htI : ¬ (t : Int) < (n : Int) + 2 := by omega
          go_wp2
          go_ret
          exact ⟨rfl, HB⟩
end Go.Proofs.YtpjgmepafekhkaaGreatDoor
