/- Layer 8: packed.New; node.New of a packed engine; MostKey, MostValue. -/
import Derived.Test.YtaicpmlcklkjgaaGreatDoorJ06
import Derived.Test.YtaicpmlcklkjgaaGreatDoorJ31
import Derived.Test.YtaicpmlcklkjgaaGreatDoorJ19
import Derived.Lib.ConvBytes
import Derived.Lib.AtoiErrMem
namespace Go.Proofs.YtaicpmlcklkjgaaGreatDoor
open Go.RowKit

set_option maxRecDepth 100000 in
theorem newQ_any (k n : Int) (w : World) : Calls Tryz.prog 94 #[.int .i64 k, .int .i64 n] w fun e w' => NewQ k n w e w' := by
  cases h1 : decide (isKd k) with
  | false =>
    have hk : ¬ isKd k := by simpa using h1
    go_enter Tryz.func94, Tryz.ntmps94
    go_wp2_with (first | (go_at_call 64; refine same_call (isKind_any _ _) ?_; rw [h1]))
    go_ret2
    exact ⟨none, 1, rfl, Below.refl _ _, .inl ⟨rfl, rfl, fun h => hk h.1⟩⟩
  | true =>
    have hk : isKd k := by simpa using h1
    cases h2 : decide (pw n) with
    | false =>
      have hn : ¬ pw n := by simpa using h2
      have HN := hidden hn
      have HK := hidden hk
      clear hn hk
      go_enter Tryz.func94, Tryz.ntmps94
      go_wp2_with (first | (go_at_call 64; refine same_call (isKind_any _ _) ?_; rw [h1]) | (go_at_call 63; refine same_call (isSize_any _ _) ?_; rw [h2]))
      go_ret2
      exact ⟨none, 1, rfl, Below.refl _ _, .inl ⟨rfl, rfl, fun h => HN.out h.2⟩⟩
    | true =>
      have hn : pw n := by simpa using h2
      have HN := hidden hn
      have HK := hidden hk
      clear hn hk
      go_enter Tryz.func94, Tryz.ntmps94
      go_wp2_with (first | (go_at_call 64; refine same_call (isKind_any _ _) ?_; rw [h1]) | (go_at_call 63; refine same_call (isSize_any _ _) ?_; rw [h2]))
      go_ret2
      exact ⟨_, 0, rfl, (Below.refl _ _).alloc (Nat.le_refl _) _, .inr ⟨rfl, rfl, HK.out, HN.out, heap_alloc_last w _⟩⟩
/-- What New comes to, of a packed engine. -/
def NNewQ (k n : Int) (w : World) (e : Ending) (w' : World) : Prop :=
  ∃ v c, e = .returned (.tuple #[v, .int .i64 c]) ∧ Hid (Below w.heap.size w w') ∧ Hid ((v = .nilIface ∧ c = 1 ∧ ¬ (isKd k ∧ pw n)) ∨ ∃ a, v = iQ a ∧ c = 0 ∧ isKd k ∧ pw n ∧ w.heap.size ≤ a ∧ QR w' a k n (.slice none 0 0) (.slice none 0 0) (.slice none 0 0) 0)
set_option maxRecDepth 100000 in
theorem NNewQ.from {k n : Int} {w u w' : World} {e : Ending} (h : NNewQ k n u e w') (hb : Below w.heap.size w u) : NNewQ k n w e w' := by
  obtain ⟨v, c, rfl, HB, HQ⟩ := h
  refine ⟨v, c, rfl, hidden (bl_go hb (Nat.le_refl _) HB.out), hidden ?_⟩
  rcases HQ.out with h | ⟨a, h1, h2, h3, h4, h5, h6⟩
  · exact .inl h
  · exact .inr ⟨a, h1, h2, h3, h4, Nat.le_trans hb.size h5, h6⟩
set_option maxRecDepth 100000 in
theorem makeQ_any (k n : Int) (w : World) : Calls Tryz.prog 92 #[.int .i64 k, .int .i64 n] w (NNewQ k n w) := by
  have HN := hidden (newQ_any k n w)
  go_enter Tryz.func92, Tryz.ntmps92
  go_wp2_with (first | (go_at_call 94; refine HN.out.mono ?_; rintro e w1 ⟨po, c, rfl, HB, HQ⟩; refine Hid.out ?_))
  apply hidden
  clear HN
  rcases HQ.out with ⟨rfl, rfl, hn⟩ | ⟨rfl, rfl, hk, hn, hh⟩
  · have H1 := hidden hn
    clear HQ hn
    go_wp2_with (first | (go_at_call 93; refine same_call (asQ_no _ _ (by decide) _) ?_))
    go_ret2
    exact ⟨_, _, rfl, HB, hidden (.inl ⟨rfl, rfl, H1.out⟩)⟩
  · have H1 := hidden (And.intro hk (And.intro hn hh))
    clear HQ hk hn hh
    go_wp2_with (first | (go_at_call 93; refine same_call (asQ_yes _ _) ?_))
    go_ret2
    obtain ⟨h1, h2, h3⟩ := H1.out
    exact ⟨_, _, rfl, HB, hidden (.inr ⟨_, rfl, rfl, h1, h2, Nat.le_refl _, h3⟩)⟩
set_option maxRecDepth 100000 in
theorem nnew_2 (k n : Int) (w : World) : Calls Tryz.prog 9 #[.int .i64 2, .int .i64 k, .int .i64 n] w (NNewQ k n w) := by
  have HL := hidden (layout_2 w)
  have HM := hidden (fun u => makeQ_any k n u)
  go_enter Tryz.func9, Tryz.ntmps9
  go_wp2_with (first | (go_at_call 39; refine HL.out.mono ?_; rintro e w1 ⟨rfl, HB1⟩) | (go_at_call 92; refine (HM.out _).mono ?_; rintro e w2 ⟨v, c, rfl, HB2, HQ2⟩; refine Hid.out ?_))
  apply hidden
  go_wp2
  go_ret2
  exact NNewQ.from ⟨v, c, rfl, HB2, HQ2⟩ (bl_al HB1.out (Nat.le_refl _) _)
set_option maxRecDepth 100000 in
theorem nmostKey_any (p : Int) (w : World) : Calls Tryz.prog 31 #[.int .i64 p] w fun e w' => e = .returned (.int .i64 (if pw p then p / 8 else 0)) ∧ w' = w := by
  cases h : decide (pw p) with
  | false =>
    rw [if_neg (by simpa using h)]
    go_enter Tryz.func31, Tryz.ntmps31
    go_wp2_with (first | (go_at_call 63; refine same_call (isSize_any _ _) ?_; rw [h]))
    go_ret
    exact ⟨rfl, rfl⟩
  | true =>
    have hp : pw p := by simpa using h
    rw [if_pos hp]
    have h1 := pw_le hp
    have HM := hidden (mostKey_any p w (by omega) (by omega))
    clear hp h1
    go_enter Tryz.func31, Tryz.ntmps31
    go_wp2_with (first | (go_at_call 63; refine same_call (isSize_any _ _) ?_; rw [h]) | (go_at_call 79; refine same_call HM.out ?_))
    go_ret
    exact ⟨rfl, rfl⟩
set_option maxRecDepth 100000 in
theorem nmostValue_any (p : Int) (w : World) : Calls Tryz.prog 33 #[.int .i64 p] w fun e w' => e = .returned (.int .i64 (if pw p then p / 16 * 3 else 0)) ∧ w' = w := by
  cases h : decide (pw p) with
  | false =>
    rw [if_neg (by simpa using h)]
    go_enter Tryz.func33, Tryz.ntmps33
    go_wp2_with (first | (go_at_call 63; refine same_call (isSize_any _ _) ?_; rw [h]))
    go_ret
    exact ⟨rfl, rfl⟩
  | true =>
    have hp : pw p := by simpa using h
    rw [if_pos hp]
    have h1 := pw_le hp
    have HM := hidden (mostValue_any p w (by omega) (by omega))
    clear hp h1
    go_enter Tryz.func33, Tryz.ntmps33
    go_wp2_with (first | (go_at_call 63; refine same_call (isSize_any _ _) ?_; rw [h]) | (go_at_call 80; refine same_call HM.out ?_))
    go_ret
    exact ⟨rfl, rfl⟩
end Go.Proofs.YtaicpmlcklkjgaaGreatDoor

/- Layer 8: the law's value: a cell of two texts. -/

namespace Go.Proofs.YtaicpmlcklkjgaaGreatDoor
open Go.RowKit

/-- A text's bytes as numbers. -/
def nB (t : ByteArray) : List Int := t.data.toList.map fun b => (b.toNat : Int)
set_option maxRecDepth 100000 in
theorem nB_length (t : ByteArray) : (nB t).length = t.size := by unfold nB; rw [List.length_map, Array.length_toList]; rfl
set_option maxRecDepth 100000 in
theorem nB_wf (t : ByteArray) : Wf (nB t) := by
  intro x hx
  simp only [nB, List.mem_map] at hx
  obtain ⟨b, _, rfl⟩ := hx
  have := b.toNat_lt
  omega
set_option maxRecDepth 100000 in
theorem nB_getD (t : ByteArray) (j : Nat) : (nB t).getD j 0 = ((t.data.toList.getD j 0).toNat : Int) := by
  simp only [nB, List.getD, List.getElem?_map]
  cases t.data.toList[j]? <;> simp
set_option maxRecDepth 100000 in
/-- '[]byte(t)', in memory of its own. -/
theorem conv8 (w : World) (t : ByteArray) (h : t.size ≤ 140737488355328) : ∃ c W, (convert 9 41 (.string t)).run Tryz.prog w = .ok (.slice (some ⟨w.heap.size, 0, none⟩) t.size c) W ∧ Sl W (some ⟨w.heap.size, 0, none⟩) t.size c (nB t) ∧ Below w.heap.size w W ∧ w.heap.size < W.heap.size := by
  refine ⟨_, _, Lib.run_convert_string_bytes w 9 41 5 t Tryz.underlying9 Tryz.underlying41 Tryz.underlying5, ?_, Lib.bytesWorld_below w 5 t, by rw [Lib.bytesWorld_size]; omega⟩
  refine ⟨nB_length t, grownCap_ge _ _ _ _, h, nB_wf t, (by intro h; cases h), .inr ⟨w.heap.size, 0, rfl, by rw [Lib.bytesWorld_size]; omega, fun i hi => ?_⟩⟩
  rw [Nat.zero_add, Lib.bytesWorld_cell w 5 t i hi, nB_getD]
/-- What value comes to. -/
def ValTo (k v : ByteArray) (w : World) (e : Ending) (w' : World) : Prop :=
  ∃ g1 c1 g2 c2, e = .returned (.agg #[.slice (some ⟨g1, 0, none⟩) k.size c1, .int .i64 1, .slice (some ⟨g2, 0, none⟩) v.size c2, .int .i64 0, .int .i64 0]) ∧ Hid (Sl w' (some ⟨g1, 0, none⟩) k.size c1 (nB k) ∧ Sl w' (some ⟨g2, 0, none⟩) v.size c2 (nB v) ∧ w.heap.size ≤ g1 ∧ w.heap.size ≤ g2) ∧ Hid (Below w.heap.size w w')
set_option maxRecDepth 100000 in
theorem value8_any (k v : ByteArray) (hk : k.size ≤ 140737488355328) (hv : v.size ≤ 140737488355328) (w : World) : Calls Tryz.prog 38 #[.string k, .string v] w (ValTo k v w) := by
  obtain ⟨y, hy⟩ : ∃ y, w.alloc (.cells #[.slice none 0 0, .int .i64 0, .slice none 0 0, .int .i64 0, .int .i64 0] 43) = y := ⟨_, rfl⟩
  have hby : Below w.heap.size w y := by rw [← hy]; exact bl_al (Below.refl _ _) (Nat.le_refl _) _
  obtain ⟨s, hs⟩ : ∃ s, w.heap.size = s := ⟨_, rfl⟩
  have h5 : C5 y s (.slice none 0 0) (.int .i64 0) (.slice none 0 0) (.int .i64 0) (.int .i64 0) := by rw [← hy, ← hs]; exact C5.box _ _ _ _ _ _
  obtain ⟨c1, W1, k1, s1, b1, l1⟩ := conv8 y k hk
  obtain ⟨c2, W2, k2, s2, b2, l2⟩ := conv8 W1 v hv
  obtain ⟨g1, hg1⟩ : ∃ g1, y.heap.size = g1 := ⟨_, rfl⟩
  obtain ⟨g2, hg2⟩ : ∃ g2, W1.heap.size = g2 := ⟨_, rfl⟩
  have hsz : y.heap.size = s + 1 := by rw [← hy, ← hs]; simp
  rw [hg1] at k1 s1
  rw [hg2] at k2 s2
  have h52 : C5 W2 s (.slice none 0 0) (.int .i64 0) (.slice none 0 0) (.int .i64 0) (.int .i64 0) := box_on (box_on h5 b1) b2
  obtain ⟨f0, f1, f2, f3, f4⟩ := h52.free
  obtain ⟨d0, d1, d2, d3, d4⟩ := h52.cells
  have H5 := hidden h52
  have HS1 := hidden (s1.on (Nat.le_refl _) b2)
  have HS2 := hidden s2
  have HB : Hid (Below w.heap.size w W2) := hidden (bl_go (bl_go hby (Nat.le_refl _) b1) (Nat.le_refl _) b2)
  have HN : Hid (s < g1 ∧ s < g2 ∧ w.heap.size = s) := hidden (by have := b1.size; omega)
  clear h5 h52 s1 s2 b1 b2 l1 l2 hby hsz hg1 hg2
  go_enter Tryz.func38, Tryz.ntmps38
  go_wp2_with fail
  refine bodyPost_ret (results_cell_row rfl _ _ s 43 #[.slice (some ⟨g1, 0, none⟩) k.size c1, .int .i64 1, .slice (some ⟨g2, 0, none⟩) v.size c2, .int .i64 0, .int .i64 0] (0, 0) _ (by rfl) (H5.out.put _ _ _ _ _) Tryz.underlying43 rfl sizeCell) rfl ?_
  have hcf := put5_cf W2 s (.slice (some ⟨g1, 0, none⟩) k.size c1) (.int .i64 1) (.slice (some ⟨g2, 0, none⟩) v.size c2) (.int .i64 0) (.int .i64 0)
  obtain ⟨n1, n2, n3⟩ := HN.out
  refine ⟨g1, c1, g2, c2, rfl, hidden ⟨HS1.out.cf hcf (.inr fun p hp => ?_), HS2.out.cf hcf (.inr fun p hp => ?_), by omega, by omega⟩, hidden (HB.out.trans (hcf.below HB.out.size (fun i hi e => by omega)))⟩
  · injection hp with hp; subst hp; simp only; omega
  · injection hp with hp; subst hp; simp only; omega
end Go.Proofs.YtaicpmlcklkjgaaGreatDoor
