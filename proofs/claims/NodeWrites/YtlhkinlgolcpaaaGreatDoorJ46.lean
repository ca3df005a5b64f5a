import Derived.Test.YtlhkinlgolcpaaaGreatDoorJ25
import Derived.Test.YtlhkinlgolcpaaaGreatDoorJ03
import Derived.Test.YtlhkinlgolcpaaaGreatDoorJ22
import Derived.Test.YtlhkinlgolcpaaaGreatDoorJ08
import Derived.Lib.ConvBytes
import Derived.Lib.AtoiErrMem
import Derived.Test.YtlhkinlgolcpaaaGreatDoorJ15
namespace Go.Proofs.YtlhkinlgolcpaaaGreatDoor
set_option maxRecDepth 100000
open Go.RowKit
theorem nmostKey_any (p : Int) (w : World) : Calls Tryz.prog 14 #[.int .i64 p] w fun e w' => e = .returned (.int .i64 (if pw p then p / 8 else 0)) ∧ w' = w := by
 cases h : decide (pw p) with
 | false =>
  rw [if_neg (by simpa using h)]
  go_enter Tryz.func14, Tryz.ntmps14
  go_wp2_with (first | (go_at_call 24; refine same_call (isSize_any _ _) ?_; rw [h]))
  go_ret
  exact ⟨rfl, rfl⟩
 | true =>
  have hp : pw p := by simpa using h
  rw [if_pos hp]
  have h1 := pw_le hp
  have HM := hidden (mostKey_any p w (by omega) (by omega))
  clear hp h1
  go_enter Tryz.func14, Tryz.ntmps14
  go_wp2_with (first | (go_at_call 24; refine same_call (isSize_any _ _) ?_; rw [h]) | (go_at_call 41; refine same_call HM.out ?_))
  go_ret
  exact ⟨rfl, rfl⟩
theorem nmostValue_any (p : Int) (w : World) : Calls Tryz.prog 16 #[.int .i64 p] w fun e w' => e = .returned (.int .i64 (if pw p then p / 16 * 3 else 0)) ∧ w' = w := by
 cases h : decide (pw p) with
 | false =>
  rw [if_neg (by simpa using h)]
  go_enter Tryz.func16, Tryz.ntmps16
  go_wp2_with (first | (go_at_call 24; refine same_call (isSize_any _ _) ?_; rw [h]))
  go_ret
  exact ⟨rfl, rfl⟩
 | true =>
  have hp : pw p := by simpa using h
  rw [if_pos hp]
  have h1 := pw_le hp
  have HM := hidden (mostValue_any p w (by omega) (by omega))
  clear hp h1
  go_enter Tryz.func16, Tryz.ntmps16
  go_wp2_with (first | (go_at_call 24; refine same_call (isSize_any _ _) ?_; rw [h]) | (go_at_call 42; refine same_call HM.out ?_))
  go_ret
  exact ⟨rfl, rfl⟩
end Go.Proofs.YtlhkinlgolcpaaaGreatDoor

namespace Go.Proofs.YtlhkinlgolcpaaaGreatDoor
set_option maxRecDepth 100000
open Go.RowKit
theorem newQ_any (k n : Int) (w : World) : Calls Tryz.prog 58 #[.int .i64 k, .int .i64 n] w fun e w' => NewQ k n w e w' := by
 cases h1 : decide (isKd k) with
 | false =>
  have hk : ¬ isKd k := by simpa using h1
  go_enter Tryz.func58, Tryz.ntmps58
  go_wp2_with (first | (go_at_call 25; refine same_call (isKind_any _ _) ?_; rw [h1]))
  go_ret2
  exact ⟨none, 1, rfl, Below.refl _ _, .inl ⟨rfl, rfl, fun h => hk h.1⟩⟩
 | true =>
  have hk : isKd k := by simpa using h1
  cases h2 : decide (pw n) with
  | false =>
   have hn : ¬ pw n := by simpa using h2
   have HN := hidden hn
   have HK := hidden hk
   clear hn hk
   go_enter Tryz.func58, Tryz.ntmps58
   go_wp2_with (first | (go_at_call 25; refine same_call (isKind_any _ _) ?_; rw [h1]) | (go_at_call 24; refine same_call (isSize_any _ _) ?_; rw [h2]))
   go_ret2
   exact ⟨none, 1, rfl, Below.refl _ _, .inl ⟨rfl, rfl, fun h => HN.out h.2⟩⟩
  | true =>
   have hn : pw n := by simpa using h2
   have HN := hidden hn
   have HK := hidden hk
   clear hn hk
   go_enter Tryz.func58, Tryz.ntmps58
   go_wp2_with (first | (go_at_call 25; refine same_call (isKind_any _ _) ?_; rw [h1]) | (go_at_call 24; refine same_call (isSize_any _ _) ?_; rw [h2]))
   go_ret2
   exact ⟨_, 0, rfl, (Below.refl _ _).alloc (Nat.le_refl _) _, .inr ⟨rfl, rfl, HK.out, HN.out, heap_alloc_last w _⟩⟩
def NNewQ (k n : Int) (w : World) (e : Ending) (w' : World) : Prop :=
 ∃ v c, e = .returned (.tuple #[v, .int .i64 c]) ∧ Hid (Below w.heap.size w w') ∧ Hid ((v = .nilIface ∧ c = 1 ∧ ¬ (isKd k ∧ pw n)) ∨ ∃ a, v = iQ a ∧ c = 0 ∧ isKd k ∧ pw n ∧ w.heap.size ≤ a ∧ QR w' a k n (.slice none 0 0) (.slice none 0 0) (.slice none 0 0) 0)
theorem NNewQ.from {k n : Int} {w u w' : World} {e : Ending} (h : NNewQ k n u e w') (hb : Below w.heap.size w u) : NNewQ k n w e w' := by
 obtain ⟨v, c, rfl, HB, HQ⟩ := h
 refine ⟨v, c, rfl, hidden (bl_go hb (Nat.le_refl _) HB.out), hidden ?_⟩
 rcases HQ.out with h | ⟨a, h1, h2, h3, h4, h5, h6⟩
 ·exact .inl h
 ·exact .inr ⟨a, h1, h2, h3, h4, Nat.le_trans hb.size h5, h6⟩
theorem makeQ_any (k n : Int) (w : World) : Calls Tryz.prog 56 #[.int .i64 k, .int .i64 n] w (NNewQ k n w) := by
 have HN := hidden (newQ_any k n w)
 go_enter Tryz.func56, Tryz.ntmps56
 go_wp2_with (first | (go_at_call 58; refine HN.out.mono ?_; rintro e w1 ⟨po, c, rfl, HB, HQ⟩; refine Hid.out ?_))
 apply hidden
 clear HN
 rcases HQ.out with ⟨rfl, rfl, hn⟩ | ⟨rfl, rfl, hk, hn, hh⟩
 ·have H1 := hidden hn
  clear HQ hn
  go_wp2_with (first | (go_at_call 57; refine same_call (asQ_no _ _ (by decide) _) ?_))
  go_ret2
  exact ⟨_, _, rfl, HB, hidden (.inl ⟨rfl, rfl, H1.out⟩)⟩
 ·have H1 := hidden (And.intro hk (And.intro hn hh))
  clear HQ hk hn hh
  go_wp2_with (first | (go_at_call 57; refine same_call (asQ_yes _ _) ?_))
  go_ret2
  obtain ⟨h1, h2, h3⟩ := H1.out
  exact ⟨_, _, rfl, HB, hidden (.inr ⟨_, rfl, rfl, h1, h2, Nat.le_refl _, h3⟩)⟩
theorem nnew_2 (k n : Int) (w : World) : Calls Tryz.prog 18 #[.int .i64 2, .int .i64 k, .int .i64 n] w (NNewQ k n w) := by
 have HL := hidden (layout_2 w)
 have HM := hidden (fun u => makeQ_any k n u)
 go_enter Tryz.func18, Tryz.ntmps18
 go_wp2_with (first | (go_at_call 22; refine HL.out.mono ?_; rintro e w1 ⟨rfl, HB1⟩) | (go_at_call 56; refine (HM.out _).mono ?_; rintro e w2 ⟨v, c, rfl, HB2, HQ2⟩; refine Hid.out ?_))
 apply hidden
 go_wp2
 go_ret2
 exact NNewQ.from ⟨v, c, rfl, HB2, HQ2⟩ (bl_al HB1.out (Nat.le_refl _) _)
end Go.Proofs.YtlhkinlgolcpaaaGreatDoor

namespace Go.Proofs.YtlhkinlgolcpaaaGreatDoor
set_option maxRecDepth 100000
open Go.RowKit
def nB (t : ByteArray) : List Int := t.data.toList.map fun b => (b.toNat : Int)
theorem nB_length (t : ByteArray) : (nB t).length = t.size := by unfold nB; rw [List.length_map, Array.length_toList]; rfl
theorem nB_wf (t : ByteArray) : Wf (nB t) := by
 intro x hx
 simp only [nB, List.mem_map] at hx
 obtain ⟨b, _, rfl⟩ := hx
 have := b.toNat_lt
 omega
theorem nB_getD (t : ByteArray) (j : Nat) : (nB t).getD j 0 = ((t.data.toList.getD j 0).toNat : Int) := by
 simp only [nB, List.getD, List.getElem?_map]
 cases t.data.toList[j]? <;> simp
theorem conv8 (w : World) (t : ByteArray) (h : t.size ≤ 140737488355328) : ∃ c W, (convert 9 25 (.string t)).run Tryz.prog w = .ok (.slice (some ⟨w.heap.size, 0, none⟩) t.size c) W ∧ Sl W (some ⟨w.heap.size, 0, none⟩) t.size c (nB t) ∧ Below w.heap.size w W ∧ w.heap.size < W.heap.size := by
 refine ⟨_, _, Lib.run_convert_string_bytes w 9 25 5 t Tryz.underlying9 Tryz.underlying25 Tryz.underlying5, ?_, Lib.bytesWorld_below w 5 t, by rw [Lib.bytesWorld_size]; omega⟩
 refine ⟨nB_length t, grownCap_ge _ _ _ _, h, nB_wf t, (by intro h; cases h), .inr ⟨w.heap.size, 0, rfl, by rw [Lib.bytesWorld_size]; omega, fun i hi => ?_⟩⟩
 rw [Nat.zero_add, Lib.bytesWorld_cell w 5 t i hi, nB_getD]
def ValTo (k v : ByteArray) (w : World) (e : Ending) (w' : World) : Prop :=
 ∃ g1 c1 g2 c2, e = .returned (.agg #[.slice (some ⟨g1, 0, none⟩) k.size c1, .int .i64 1, .slice (some ⟨g2, 0, none⟩) v.size c2, .int .i64 0, .int .i64 0]) ∧ Hid (Sl w' (some ⟨g1, 0, none⟩) k.size c1 (nB k) ∧ Sl w' (some ⟨g2, 0, none⟩) v.size c2 (nB v) ∧ w.heap.size ≤ g1 ∧ w.heap.size ≤ g2) ∧ Hid (Below w.heap.size w w')
theorem value8_any (k v : ByteArray) (hk : k.size ≤ 140737488355328) (hv : v.size ≤ 140737488355328) (w : World) : Calls Tryz.prog 19 #[.string k, .string v] w (ValTo k v w) := by
 obtain ⟨y, hy⟩ : ∃ y, w.alloc (.cells #[.slice none 0 0, .int .i64 0, .slice none 0 0, .int .i64 0, .int .i64 0] 41) = y := ⟨_, rfl⟩
 have hby : Below w.heap.size w y := by rw [← hy]; exact bl_al (Below.refl _ _) (Nat.le_refl _) _
 obtain ⟨s, hs⟩ : ∃ s, w.heap.size = s := ⟨_, rfl⟩
 have h5 : C5 y s (.slice none 0 0) (.int .i64 0) (.slice none 0 0) (.int .i64 0) (.int .i64 0) := by rw [← hy, ← hs]; exact C5.box _ _ _ _ _ _
 obtain ⟨c1, W1, k1, s1, b1, l1⟩ := conv8 y k hk
 obtain ⟨c2, W2, k2, s2, b2, l2⟩ := conv8 W1 v hv
 obtain ⟨g1, hg1⟩ : ∃ g1, y.heap.size = g1 := ⟨_, rfl⟩
 obtain ⟨g2, hg2⟩ : ∃ g2, W1.heap.size = g2 := ⟨_, rfl⟩
 have hsz : y.heap.size = s + 1 := by rw [← hy, ← hs]; simp
 rw [hg1] at k1 s1
 rw [hg2] at k2 s2
 have h52 : C5 W2 s (.slice none 0 0) (.int .i64 0) (.slice none 0 0) (.int .i64 0) (.int .i64 0) := box_on (box_on h5 b1) b2
 obtain ⟨f0, f1, f2, f3, f4⟩ := h52.free
 obtain ⟨d0, d1, d2, d3, d4⟩ := h52.cells
 have H5 := hidden h52
 have HS1 := hidden (s1.on (Nat.le_refl _) b2)
 have HS2 := hidden s2
 have HB : Hid (Below w.heap.size w W2) := hidden (bl_go (bl_go hby (Nat.le_refl _) b1) (Nat.le_refl _) b2)
 have HN : Hid (s < g1 ∧ s < g2 ∧ w.heap.size = s) := hidden (by have := b1.size; omega)
 clear h5 h52 s1 s2 b1 b2 l1 l2 hby hsz hg1 hg2
 go_enter Tryz.func19, Tryz.ntmps19
 go_wp2_with fail
 refine bodyPost_ret (results_cell_row rfl _ _ s 41 #[.slice (some ⟨g1, 0, none⟩) k.size c1, .int .i64 1, .slice (some ⟨g2, 0, none⟩) v.size c2, .int .i64 0, .int .i64 0] (0, 0) _ (by rfl) (H5.out.put _ _ _ _ _) Tryz.underlying41 rfl sizeCell) rfl ?_
 have hcf := put5_cf W2 s (.slice (some ⟨g1, 0, none⟩) k.size c1) (.int .i64 1) (.slice (some ⟨g2, 0, none⟩) v.size c2) (.int .i64 0) (.int .i64 0)
 obtain ⟨n1, n2, n3⟩ := HN.out
 refine ⟨g1, c1, g2, c2, rfl, hidden ⟨HS1.out.cf hcf (.inr fun p hp => ?_), HS2.out.cf hcf (.inr fun p hp => ?_), by omega, by omega⟩, hidden (HB.out.trans (hcf.below HB.out.size (fun i hi e => by omega)))⟩
 ·injection hp with hp; subst hp; simp only; omega
 ·injection hp with hp; subst hp; simp only; omega
end Go.Proofs.YtlhkinlgolcpaaaGreatDoor

namespace Go.Proofs.YtlhkinlgolcpaaaGreatDoor
set_option maxRecDepth 100000
open Go.RowKit
theorem OwnN.lowN {w : World} {B C : Nat} {v : Value} {l : List Nat} (h : OwnN w C v l) (hB : B ≤ C) : OwnN w B v l := by
 unfold OwnN at *
 refine ⟨h.1, ?_⟩
 rcases h.2 with h2 | ⟨g, c, cur, e, hg, h4⟩
 ·exact .inl h2
 ·exact .inr ⟨g, c, cur, e, Nat.le_trans hB hg, h4⟩
def ReadPo (l : List Int) (w : World) (e : Ending) (w' : World) : Prop :=
 ∃ po, e = .returned (.pointer po) ∧ Hid (Below w.heap.size w w') ∧ Hid ((po = none ∧ readM l = none) ∨ ∃ a bo bn bc so sn sc cs, po = some ⟨a, 0, none⟩ ∧ w.heap.size ≤ a ∧ readM l = some cs ∧ (∃ gb, bo = some ⟨gb, 0, none⟩ ∧ w.heap.size ≤ gb) ∧ (PgAt w' a (l.getD 0 0) l.length bo bn bc so sn sc cs ∧ Po w' w.heap.size a (l.getD 0 0) l.length (.slice bo bn bc) (.slice so sn sc) cs))
theorem ReadPo.no {l : List Int} {w w' : World} (hb : Below w.heap.size w w') (h : readM l = none) : ReadPo l w (.returned (.pointer none)) w' := ⟨none, rfl, hidden hb, hidden (.inl ⟨rfl, h⟩)⟩
set_option maxHeartbeats 2000000 in
theorem read_tailP (ao : Option Addr) (n cap : Nat) (l : List Int) (w : World) (hs : Sl w ao n cap l) (hn : pw n) (hk : isKd (l.getD 0 0)) :
  Calls Tryz.prog 88 #[.slice ao n cap] w fun e w' => ReadPo l w e w' := by
 have hn2 := pw_nat hn
 have hn3 := hn2.1
 have hn4 := hn2.2
 have hlen := hs.hlen
 have hcap := hs.hcap
 obtain ⟨b, off, rfl, hbl, hc⟩ : ∃ b off, ao = some ⟨b, off, none⟩ ∧ b < w.heap.size ∧ ∀ i, i < n → w.cell? ⟨b, off + i, none⟩ = some (.int .u8 (l.getD i 0)) := by
  rcases hs.hat with h | h
  ·omega
  ·exact h
 have c0 := hc 0 (by omega)
 rw [Nat.add_zero] at c0
 have hk0 := hs.wf.getD 0
 have HE : Hid (readM l = (if frst l < 4 + rdN l 2 2 * 2 ∨ (n : Int) - 4 < frst l then none else part (l.getD 0 0) n (rdN l 2 2).toNat none ((l.drop (frst l).toNat).take (n - 4 - (frst l).toNat)))) := by
  refine hidden ?_
  unfold readM
  rw [hlen, if_pos ⟨hn, hk⟩]
 have hN := rdN_bound l hs.wf 2 2
 have hF4 := rdN_bound l hs.wf 4 2
 obtain ⟨N, hNe⟩ := Int.eq_ofNat_of_zero_le hN.1
 obtain ⟨G, hGe⟩ := Int.eq_ofNat_of_zero_le hF4.1
 obtain ⟨E, hEe⟩ : ∃ E, n - 4 = E := ⟨_, rfl⟩
 have hEI : (n : Int) - 4 = (E : Int) := by omega
 obtain ⟨F, hFe⟩ : ∃ F : Nat, frst l = (F : Int) := by
  unfold frst
  rw [hlen]
  split
  ·exact ⟨G, hGe⟩
  ·exact ⟨E, hEI⟩
 have HFD : Hid (frst l = if 0 < N then (G : Int) else (E : Int)) := by
  refine hidden ?_
  unfold frst
  rw [hNe, hGe, hlen, hEI]
  simp
 rw [hNe, hFe, hEI, Int.toNat_natCast, Int.toNat_natCast] at HE
 rw [hFe] at HFD
 have hNb : N < 65536 := by omega
 have hGb : G < 65536 := by omega
 obtain ⟨k0, hk0e⟩ : ∃ k0, l.getD 0 0 = k0 := ⟨_, rfl⟩
 rw [hk0e] at c0 hk0 hk HE
 obtain ⟨a, ha⟩ : ∃ a, w.heap.size = a := ⟨_, rfl⟩
 have HS2 : Hid (∀ u, Rq w u a k0 n b off cap l → Calls Tryz.prog 123 #[.slice (some ⟨b, off, none⟩) n cap, .int .i64 2] u fun e u' => e = .returned (.int .i64 (N : Int)) ∧ Hid (Rq w u' a k0 n b off cap l)) := by
  refine hidden fun u hu => ?_
  have := shortAt_any u (some ⟨b, off, none⟩) n cap 2 l hu.sl (by omega)
  rw [hNe] at this
  refine (show Calls Tryz.prog 123 #[.slice (some ⟨b, off, none⟩) n cap, .int .i64 2] u _ from this).mono ?_
  rintro e u' ⟨rfl, q, rfl⟩
  exact ⟨rfl, hidden (hu.on (bl_dr (Below.refl _ _) _))⟩
 have HS4 : Hid (∀ u, Rq w u a k0 n b off cap l → Calls Tryz.prog 123 #[.slice (some ⟨b, off, none⟩) n cap, .int .i64 4] u fun e u' => e = .returned (.int .i64 (G : Int)) ∧ Hid (Rq w u' a k0 n b off cap l)) := by
  refine hidden fun u hu => ?_
  have := shortAt_any u (some ⟨b, off, none⟩) n cap 4 l hu.sl (by omega)
  rw [hGe] at this
  refine (show Calls Tryz.prog 123 #[.slice (some ⟨b, off, none⟩) n cap, .int .i64 4] u _ from this).mono ?_
  rintro e u' ⟨rfl, q, rfl⟩
  exact ⟨rfl, hidden (hu.on (bl_dr (Below.refl _ _) _))⟩
 have HR0 : Hid (Rq w (w.alloc (.cells #[.int .i64 k0, .int .i64 (n : Int), .slice none 0 0, .slice none 0 0] 95)) a k0 n b off cap l) := by
  refine hidden ⟨?_, hs.on (Nat.le_refl _) (bl_al (Below.refl _ _) (Nat.le_refl _) _), bl_al (Below.refl _ _) (Nat.le_refl _) _⟩
  rw [← ha]
  exact heap_alloc_last w _
 have d1 : decide (pw (n : Int)) = true := decide_eq_true hn
 have d2 : decide (isKd k0) = true := decide_eq_true hk
 have hw0 : IntKind.i64.wrap k0 = k0 := by rw [IntKind.wrap_i64]; omega
 have HKD := hidden hk
 have HPW := hidden hn
 have HWFL := hidden hs.wf
 have HKE := hidden hk0e
 have HLEN := hidden hlen
 have HEE := hidden hEe
 have bN : (N : Int) < 65536 := by omega
 have bE : (E : Int) ≤ 65536 := by omega
 have k01 := hk0.1
 have k02 := hk0.2
 have hn0 : (0 : Int) < (n : Int) := by omega
 clear hs hc hk hn hNe hGe hN hF4 hFe hk0e hlen hEe hk0 hn2
 go_enter Tryz.func88, Tryz.ntmps88
 go_wp2_with (first | (go_at_call 24; refine same_call (isSize_any _ _) ?_; rw [d1]) | (go_at_call 25; refine same_call (isKind_any _ _) ?_; rw [d2]) | (go_at_call 123; refine (HS2.out _ HR0.out).mono ?_; rintro e u1 ⟨rfl, HR1⟩; refine Hid.out ?_))
 apply hidden
 clear HS2 HR0 c0 hbl
 go_upto_if 36 with fail
 go_cut [5] (fun v u => v = .int .i64 (F : Int) ∧ Hid (Rq w u a k0 n b off cap l))
 case first =>
  by_cases h0 : 0 < N
  ·have h0I : 0 < (N : Int) := by omega
   have HFG : Hid ((F : Int) = (G : Int)) := hidden (by rw [HFD.out, if_pos h0])
   have C4 := hidden (HS4.out _ HR1.out)
   clear h0I HS4 HR1 HE HFD ha d1 d2 hEI bN bE hNb hn0
   obtain ⟨M, rfl⟩ : ∃ M, N = M + 1 := ⟨N - 1, by omega⟩
   clear h0
   go_wp2_with (first | (go_at_call 123; refine C4.out.mono ?_; rintro e u2 ⟨rfl, HR2⟩; refine Hid.out ?_))
   apply hidden
   go_wp2
   go_meet
   exact ⟨by rw [HFG.out], HR2⟩
  ·obtain rfl : N = 0 := by omega
   have HFG : Hid ((F : Int) = (E : Int)) := hidden (by rw [HFD.out]; simp)
   go_wp2
   go_meet
   exact ⟨by rw [HFG.out], HR1⟩
 obtain ⟨rfl, HR2⟩ := hcut
 obtain ⟨u2, hu2⟩ : ∃ u2, u2 = wc := ⟨_, rfl⟩
 subst hu2
 have bF : (F : Int) ≤ 65536 := by
  have := HFD.out
  split at this <;> omega
 clear HR1 HS4 HFD
 by_cases h1 : (F : Int) < 4 + (N : Int) * 2
 ·have HNO : Hid (readM l = none) := hidden (by rw [HE.out, if_pos (.inl h1)])
  go_wp2
  go_ret
  exact ReadPo.no HR2.out.be HNO.out
 ·by_cases h2 : (E : Int) < (F : Int)
  ·have HNO : Hid (readM l = none) := hidden (by rw [HE.out, if_pos (.inr h2)])
   go_wp2
   go_ret
   exact ReadPo.no HR2.out.be HNO.out
  ·have HRM : Hid (readM l = part k0 n N none ((l.drop F).take (E - F))) := hidden (by rw [HE.out, if_neg (by omega), HEE.out])
   clear HE
   have e1 : F ≤ E := by omega
   have e2 : (F : Int) ≤ (E : Int) := by omega
   have e3 : E ≤ cap := by omega
   have e4 : (E : Int) ≤ (cap : Int) := by omega
   have e5 : ¬ cap = F := by omega
   have HCB := hidden (copiedBytes_any (some ⟨b, off + F, none⟩) (E - F) (cap - F) _ u2 (HR2.out.sl.piece F (E - F) (cap - F) (by omega) (by omega)))
   obtain ⟨bn, hbn⟩ : ∃ bn, E - F = bn := ⟨_, rfl⟩
   obtain ⟨BD, hBD⟩ : ∃ BD, (l.drop F).take (E - F) = BD := ⟨_, rfl⟩
   rw [hBD] at HCB HRM
   have HBL : Hid (BD.length = bn) := hidden (by rw [← hBD, List.length_take, List.length_drop, HLEN.out]; omega)
   have HBW : Hid (Wf BD) := hidden (by rw [← hBD]; exact (HWFL.out.drop _).take _)
   rw [hbn] at HCB
   have hbn2 : bn ≤ 65536 := by omega
   obtain ⟨x0, x1, x2, x3⟩ := HR2.out.row.cells
   clear hBD
   go_wp2_with (first | (go_at_call 121; refine HCB.out.mono ?_; rintro e u3 ⟨rfl, HBK, HB3⟩; refine Hid.out ?_))
   apply hidden
   clear HCB x0 x1 x2 x3
   have HRW3 : Hid (PR u3 a k0 n (.slice none 0 0) (.slice none 0 0)) := hidden (box_on HR2.out.row HB3.out)
   obtain ⟨x0, x1, x2, x3⟩ := HRW3.out.cells
   have x4 := HRW3.out.free 2
   obtain ⟨gb, hgb⟩ : ∃ gb, u2.heap.size = gb := ⟨_, rfl⟩
   have HGW : Hid (w.heap.size ≤ gb) := hidden (by rw [← hgb]; exact HR2.out.be.size)
   rw [hgb] at HBK ⊢
   have hga : ¬ gb = a := by
    have := lt_some HR2.out.row
    omega
   have HRW4 : Hid (PR (u3.setCell ⟨a, 2, none⟩ (.slice (some ⟨gb, 0, none⟩) bn bn)) a k0 n (.slice (some ⟨gb, 0, none⟩) bn bn) (.slice none 0 0)) := hidden (HRW3.out.set2 _)
   have HBK4 : Hid (Bk (u3.setCell ⟨a, 2, none⟩ (.slice (some ⟨gb, 0, none⟩) bn bn)) gb BD) := hidden (HBK.out.cf (Cf.set _ _ _ _) hga)
   have HBE4 : Hid (Below w.heap.size w (u3.setCell ⟨a, 2, none⟩ (.slice (some ⟨gb, 0, none⟩) bn bn))) := hidden ((bl_go HR2.out.be (Nat.le_refl _) HB3.out).setCell (p := ⟨a, 2, none⟩) (by simp only; omega) _)
   have HPT := hidden (parted_any N _ a k0 n gb bn BD _ HRW4.out HBK4.out HBL.out HBW.out HPW.out hbn2 (by omega))
   clear HRW3 HBK HB3 HR2 hgb hbn
   go_wp2_with (first | (go_at_call 124; refine HPT.out.mono ?_; rintro e u5 ⟨bb, rfl, HC5, HP5⟩; refine Hid.out ?_))
   apply hidden
   have HBE5 : Hid (Below w.heap.size w u5) := hidden (HBE4.out.trans (HC5.out.below HBE4.out.size (by intro i hi e; omega)))
   have hws : w.heap.size ≤ (u3.setCell ⟨a, 2, none⟩ (.slice (some ⟨gb, 0, none⟩) bn bn)).heap.size := HBE4.out.size
   cases bb with
   | true =>
    go_wp2
    go_ret
    rcases HP5.out with ⟨_, cs, vs, h3, h4, h5, h6⟩ | ⟨h3, _⟩
    ·have hcl := (part_inv _ _ _ _ HBW.out h3).1
     have hb2 := (part_inv _ _ _ _ HBW.out h3).2.1
     obtain ⟨so, sc, rfl, hsn⟩ := h5.sln (by rw [sts_length, hcl]; omega)
     have hbl0 := HBL.out
     have hlen0 := HLEN.out
     refine ⟨some ⟨a, 0, none⟩, rfl, HBE5, hidden (.inr ⟨a, some ⟨gb, 0, none⟩, bn, bn, so, (sts 0 cs).length, sc, cs, rfl, by omega, HRM.out.trans h3, ⟨gb, rfl, HGW.out⟩, ?_⟩)⟩
     rw [HKE.out, HLEN.out]
     refine ⟨⟨h4, by rw [← hb2]; exact h6.sl HBL.out HBW.out (by omega), hsn⟩, ⟨h4, ?_, h5.lowN (by omega)⟩⟩
     rw [← hb2]
     have h7 := own_of_heap h6 HGW.out (by rw [HBL.out]; unfold maxLen; omega)
     rw [HBL.out] at h7
     exact h7
    ·cases h3
   | false =>
    go_wp2
    go_ret
    rcases HP5.out with ⟨h3, _⟩ | ⟨_, h3⟩
    ·cases h3
    ·exact ReadPo.no HBE5.out (HRM.out.trans h3)
theorem read_po (ao : Option Addr) (n cap : Nat) (l : List Int) (w : World) (hs : Sl w ao n cap l) :
  Calls Tryz.prog 88 #[.slice ao n cap] w fun e w' => ReadPo l w e w' := by
 by_cases hn : pw n
 ·by_cases hk : isKd (l.getD 0 0)
  ·exact read_tailP ao n cap l w hs hn hk
  ·have hn2 := pw_nat hn
   have hlen := hs.hlen
   obtain ⟨b, off, rfl, hbl, hc⟩ : ∃ b off, ao = some ⟨b, off, none⟩ ∧ b < w.heap.size ∧ ∀ i, i < n → w.cell? ⟨b, off + i, none⟩ = some (.int .u8 (l.getD i 0)) := by
    rcases hs.hat with h | h
    ·omega
    ·exact h
   have c0 := hc 0 (by omega)
   rw [Nat.add_zero] at c0
   have hk0 := hs.wf.getD 0
   have HNO : Hid (readM l = none) := hidden (by unfold readM; rw [if_neg (fun h => hk h.2)])
   have d1 : decide (pw (n : Int)) = true := decide_eq_true hn
   have d2 : decide (isKd (l.getD 0 0)) = false := decide_eq_false hk
   generalize l.getD 0 0 = k0 at *
   have hw0 : IntKind.i64.wrap k0 = k0 := by rw [IntKind.wrap_i64]; omega
   have hn0 : (0 : Int) < (n : Int) := by omega
   have k01 := hk0.1
   have k02 := hk0.2
   clear hs hc hk hn
   go_enter Tryz.func88, Tryz.ntmps88
   go_wp2_with (first | (go_at_call 24; refine same_call (isSize_any _ _) ?_; rw [d1]) | (go_at_call 25; refine same_call (isKind_any _ _) ?_; rw [d2]))
   go_ret
   exact ReadPo.no (Below.refl _ _) HNO.out
 ·have hlen := hs.hlen
  have HNO : Hid (readM l = none) := hidden (by unfold readM; rw [hlen, if_neg (fun h => hn h.1)])
  have d1 : decide (pw (n : Int)) = false := decide_eq_false hn
  clear hs hn
  go_enter Tryz.func88, Tryz.ntmps88
  go_wp2_with (first | (go_at_call 24; refine same_call (isSize_any _ _) ?_; rw [d1]))
  go_ret
  exact ReadPo.no (Below.refl _ _) HNO.out
def OpenPo (l : List Int) (w : World) (e : Ending) (w' : World) : Prop :=
 ∃ po k, e = .returned (.tuple #[.pointer po, .int .i64 k]) ∧ Hid (Below w.heap.size w w') ∧ Hid ((po = none ∧ k = 60 ∧ ¬ ∃ cs, Is (l.getD 0 0) l.length cs l) ∨ ∃ a bo bn bc so sn sc cs, po = some ⟨a, 0, none⟩ ∧ k = 0 ∧ w.heap.size ≤ a ∧ Is (l.getD 0 0) l.length cs l ∧ (∀ c ∈ cs, c.Wf) ∧ (∃ gb, bo = some ⟨gb, 0, none⟩ ∧ w.heap.size ≤ gb) ∧ (PgAt w' a (l.getD 0 0) l.length bo bn bc so sn sc cs ∧ Po w' w.heap.size a (l.getD 0 0) l.length (.slice bo bn bc) (.slice so sn sc) cs))
set_option maxHeartbeats 1000000 in
theorem open_po (ao : Option Addr) (n cap : Nat) (l : List Int) (w : World) (hs : Sl w ao n cap l) (ht : Tab w) (h0 : 1 < w.heap.size) :
  Calls Tryz.prog 52 #[.slice ao n cap] w fun e w' => OpenPo l w e w' := by
 have HR := hidden (read_po ao n cap l w hs)
 have HS := hidden hs
 have HT := hidden ht
 clear hs ht
 go_enter Tryz.func52, Tryz.ntmps52
 go_wp2_with (first | (go_at_call 88; refine HR.out.mono ?_; rintro e w1 ⟨po, rfl, HB1, HQ⟩; refine Hid.out ?_))
 apply hidden
 clear HR
 rcases HQ.out with ⟨rfl, hno⟩ | ⟨a, bo, bn, bc, so, sn, sc, cs, rfl, hal, hrm, hbo, hpg⟩
 ·have HNO : Hid (¬ ∃ cs, Is (l.getD 0 0) l.length cs l) := hidden (by
   rintro ⟨cs, h⟩
   have := (readM_of h).1
   rw [hno] at this
   cases this)
  clear HQ hno
  go_wp2
  go_ret2
  exact ⟨none, 60, rfl, HB1, hidden (.inl ⟨rfl, rfl, HNO.out⟩)⟩
 ·have HRM := hidden hrm
  have HPG := hidden hpg
  have HBO := hidden hbo
  have HAL := hidden hal
  obtain ⟨i1, i2, i3, i4, i5, _⟩ := readM_inv HS.out.wf hrm
  have HI := hidden (And.intro i1 (And.intro i2 (And.intro i3 (And.intro i4 i5))))
  have HBY := hidden (bytes_any w1 a _ _ bo bn bc so sn sc cs hpg.1 i1 i2 i4 (HT.out.on HB1.out h0) (Nat.lt_of_lt_of_le h0 HB1.out.size) i5)
  clear hrm hpg hal hbo HQ i1 i2 i3 i4 i5
  have hlen := HS.out.hlen
  have HLEN := hidden hlen
  rw [hlen] at HBY
  clear hlen
  have HPL : Hid ((pgB (l.getD 0 0) n cs).length = n) := hidden (by have := HI.out.2.2.2.1; rw [HLEN.out] at this; exact pgB_length _ _ _ this)
  have HPWF : Hid (Wf (pgB (l.getD 0 0) n cs)) := hidden (pgB_wf (by have := HI.out.1; unfold isKd at this; omega) HI.out.2.2.2.2)
  have hnr := HS.out.hroom
  obtain ⟨PB, hPB⟩ : ∃ PB, pgB (l.getD 0 0) n cs = PB := ⟨_, rfl⟩
  rw [hPB] at HBY HPL HPWF
  have HPB := hidden hPB
  clear hPB
  cases hd : decide (PB = l) with
  | true =>
   have hpl : PB = l := by simpa using hd
   go_wp2_with (first | (go_at_call 84; refine HBY.out.mono ?_; rintro e w2 ⟨g, rfl, hg, HBK, HB2⟩) | (go_at_call 89; refine same_call (equal6 _ _ _ _ _ _ PB l _ (HBK.out.sl HPL.out HPWF.out hnr) (HS.out.on (Nat.le_refl _) (bl_go HB1.out (Nat.le_refl _) HB2.out))) ?_; rw [hd]))
   go_ret2
   refine ⟨some ⟨a, 0, none⟩, 0, rfl, hidden (bl_go HB1.out (Nat.le_refl _) HB2.out), hidden (.inr ⟨a, bo, bn, bc, so, sn, sc, cs, rfl, rfl, HAL.out, ?_, HI.out.2.2.2.2, HBO.out, HPG.out.1.on HB2.out, HPG.out.2.on HB2.out⟩)⟩
   refine (is_iff HS.out.wf cs).2 ⟨HRM.out, ?_⟩
   rw [HLEN.out, HPB.out]
   exact hpl
  | false =>
   have hpl : ¬ PB = l := by simpa using hd
   have HNO : Hid (¬ ∃ cs, Is (l.getD 0 0) l.length cs l) := hidden (by
    rintro ⟨ds, h⟩
    obtain ⟨h1, h2⟩ := (is_iff HS.out.wf ds).1 h
    rw [HRM.out] at h1
    injection h1 with h1
    subst h1
    rw [HLEN.out, HPB.out] at h2
    exact hpl h2)
   go_wp2_with (first | (go_at_call 84; refine HBY.out.mono ?_; rintro e w2 ⟨g, rfl, hg, HBK, HB2⟩) | (go_at_call 89; refine same_call (equal6 _ _ _ _ _ _ PB l _ (HBK.out.sl HPL.out HPWF.out hnr) (HS.out.on (Nat.le_refl _) (bl_go HB1.out (Nat.le_refl _) HB2.out))) ?_; rw [hd]))
   go_ret2
   exact ⟨none, 60, rfl, hidden (bl_go HB1.out (Nat.le_refl _) HB2.out), hidden (.inl ⟨rfl, rfl, HNO.out⟩)⟩
end Go.Proofs.YtlhkinlgolcpaaaGreatDoor

namespace Go.Proofs.YtlhkinlgolcpaaaGreatDoor
set_option maxRecDepth 100000
open Go.RowKit
def NNewP (k n : Int) (w : World) (e : Ending) (w' : World) : Prop :=
 ∃ v c, e = .returned (.tuple #[v, .int .i64 c]) ∧ Hid (Below w.heap.size w w') ∧ Hid ((v = .nilIface ∧ c = 1 ∧ ¬ (isKd k ∧ pw n)) ∨ ∃ a, v = iP a ∧ c = 0 ∧ isKd k ∧ pw n ∧ w.heap.size ≤ a ∧ PR w' a k n.toNat (.slice none 0 0) (.slice none 0 0))
theorem NNewP.from {k n : Int} {w u w' : World} {e : Ending} (h : NNewP k n u e w') (hb : Below w.heap.size w u) : NNewP k n w e w' := by
 obtain ⟨v, c, rfl, HB, HQ⟩ := h
 refine ⟨v, c, rfl, hidden (bl_go hb (Nat.le_refl _) HB.out), hidden ?_⟩
 rcases HQ.out with h | ⟨a, h1, h2, h3, h4, h5, h6⟩
 ·exact .inl h
 ·exact .inr ⟨a, h1, h2, h3, h4, Nat.le_trans hb.size h5, h6⟩
theorem makeP_any (k n : Int) (w : World) : Calls Tryz.prog 48 #[.int .i64 k, .int .i64 n] w (NNewP k n w) := by
 have HN := hidden (new_any k n w)
 go_enter Tryz.func48, Tryz.ntmps48
 go_wp2_with (first | (go_at_call 50; refine HN.out.mono ?_; rintro e w1 ⟨po, c, rfl, HB, HQ⟩; refine Hid.out ?_))
 apply hidden
 clear HN
 rcases HQ.out with ⟨rfl, rfl, hn⟩ | ⟨rfl, rfl, hk, hn, hh⟩
 ·have H1 := hidden hn
  clear HQ hn
  go_wp2_with (first | (go_at_call 49; refine same_call (asP_no _ _ (by decide) _) ?_))
  go_ret2
  exact ⟨_, _, rfl, HB, hidden (.inl ⟨rfl, rfl, H1.out⟩)⟩
 ·have H1 := hidden (And.intro hk (And.intro hn hh))
  clear HQ hk hn hh
  go_wp2_with (first | (go_at_call 49; refine same_call (asP_yes _ _) ?_))
  go_ret2
  obtain ⟨h1, h2, h3⟩ := H1.out
  have e : n = ((n.toNat : Nat) : Int) := by have := pw_le h2; omega
  refine ⟨_, _, rfl, HB, hidden (.inr ⟨_, rfl, rfl, h1, h2, Nat.le_refl _, ?_⟩)⟩
  unfold PR
  rw [← e]
  exact h3
theorem nnew_1 (k n : Int) (w : World) : Calls Tryz.prog 18 #[.int .i64 1, .int .i64 k, .int .i64 n] w (NNewP k n w) := by
 have HL := hidden (layout_1 w)
 have HM := hidden (fun u => makeP_any k n u)
 go_enter Tryz.func18, Tryz.ntmps18
 go_wp2_with (first | (go_at_call 22; refine HL.out.mono ?_; rintro e w1 ⟨rfl, HB1⟩) | (go_at_call 48; refine (HM.out _).mono ?_; rintro e w2 ⟨v, c, rfl, HB2, HQ2⟩; refine Hid.out ?_))
 apply hidden
 go_wp2
 go_ret2
 exact NNewP.from ⟨v, c, rfl, HB2, HQ2⟩ (bl_al HB1.out (Nat.le_refl _) _)
theorem nnew_0 (x k n : Int) (h1 : ¬ x = 1) (h2 : ¬ x = 2) (w : World) : Calls Tryz.prog 18 #[.int .i64 x, .int .i64 k, .int .i64 n] w fun e w' => e = .returned (.tuple #[.nilIface, .int .i64 80]) ∧ Hid (Below w.heap.size w w') := by
 have HL := hidden (layout_0 w x h1 h2)
 clear h1 h2
 go_enter Tryz.func18, Tryz.ntmps18
 go_wp2_with (first | (go_at_call 22; refine HL.out.mono ?_; rintro e w1 ⟨rfl, HB1⟩))
 go_ret2
 exact ⟨rfl, hidden (bl_al HB1.out (Nat.le_refl _) _)⟩
def egO (l : List Int) : Int := if l.length < 2 then 0 else l.getD 1 0
theorem engineOf_any (ao : Option Addr) (n cap : Nat) (l : List Int) (w : World) (hs : Sl w ao n cap l) :
  Calls Tryz.prog 43 #[.slice ao n cap] w fun e w' => e = .returned (.int .i64 (egO l)) ∧ w' = w := by
 have hlen := hs.hlen
 have hnr := hs.hroom
 unfold egO
 rw [hlen]
 by_cases h : n < 2
 ·rw [if_pos h]
  have hI : (n : Int) < 2 := by omega
  clear hs hlen
  go_enter Tryz.func43, Tryz.ntmps43
  go_wp2
  go_ret
  exact ⟨rfl, rfl⟩
 ·rw [if_neg h]
  have hI : ¬ (n : Int) < 2 := by omega
  have h1 : 1 < n := by omega
  obtain ⟨g, off, rfl, hc⟩ : ∃ g off, ao = some ⟨g, off, none⟩ ∧ w.cell? ⟨g, off + 1, none⟩ = some (.int .u8 (l.getD 1 0)) := by
   rcases hs.hat with h0 | ⟨g, off, e, _, hc⟩
   ·omega
   ·exact ⟨g, off, e, hc 1 h1⟩
  have hb := hs.wf.getD 1
  generalize l.getD 1 0 = x at *
  clear hs hlen
  go_enter Tryz.func43, Tryz.ntmps43
  go_wp2
  go_ret
  exact ⟨rfl, rfl⟩
end Go.Proofs.YtlhkinlgolcpaaaGreatDoor

namespace Go.Proofs.YtlhkinlgolcpaaaGreatDoor
set_option maxRecDepth 100000
open Go.RowKit
theorem Po.low {w : World} {B C a : Nat} {k : Int} {n : Nat} {vb vs : Value} {cs : List Cl} (h : Po w C a k n vb vs cs) (hB : B ≤ C) : Po w B a k n vb vs cs := ⟨h.row, h.body.low hB, h.starts.lowN hB⟩
def NOpenP (l : List Int) (w : World) (e : Ending) (w' : World) : Prop :=
 ∃ v c, e = .returned (.tuple #[v, .int .i64 c]) ∧ Hid (Below w.heap.size w w') ∧ Hid ((v = .nilIface ∧ c = 60 ∧ ¬ ∃ cs, Is (l.getD 0 0) l.length cs l) ∨ ∃ a bo bn bc so sn sc cs, v = iP a ∧ c = 0 ∧ w.heap.size ≤ a ∧ Is (l.getD 0 0) l.length cs l ∧ (∀ c ∈ cs, c.Wf) ∧ Po w' w.heap.size a (l.getD 0 0) l.length (.slice bo bn bc) (.slice so sn sc) cs)
theorem NOpenP.from {l : List Int} {w u w' : World} {e : Ending} (h : NOpenP l u e w') (hb : Below w.heap.size w u) : NOpenP l w e w' := by
 obtain ⟨v, c, rfl, HB, HQ⟩ := h
 refine ⟨v, c, rfl, hidden (bl_go hb (Nat.le_refl _) HB.out), hidden ?_⟩
 rcases HQ.out with h | ⟨a, bo, bn, bc, so, sn, sc, cs, h1, h2, h3, h4, h5, h6⟩
 ·exact .inl h
 ·exact .inr ⟨a, bo, bn, bc, so, sn, sc, cs, h1, h2, Nat.le_trans hb.size h3, h4, h5, h6.low hb.size⟩
theorem openP_any (ao : Option Addr) (n cap : Nat) (l : List Int) (w : World) (hs : Sl w ao n cap l) (ht : Tab w) (h0 : 1 < w.heap.size) : Calls Tryz.prog 51 #[.slice ao n cap] w (NOpenP l w) := by
 have HN := hidden (open_po ao n cap l w hs ht h0)
 clear hs ht h0
 go_enter Tryz.func51, Tryz.ntmps51
 go_wp2_with (first | (go_at_call 52; refine HN.out.mono ?_; rintro e w1 ⟨po, c, rfl, HB, HQ⟩; refine Hid.out ?_))
 apply hidden
 clear HN
 rcases HQ.out with ⟨rfl, rfl, hn⟩ | ⟨a, bo, bn, bc, so, sn, sc, cs, rfl, rfl, h1, h2, h3, h4, h5⟩
 ·have H1 := hidden hn
  clear HQ hn
  go_wp2_with (first | (go_at_call 49; refine same_call (asP_no _ _ (by decide) _) ?_))
  go_ret2
  exact ⟨_, _, rfl, HB, hidden (.inl ⟨rfl, rfl, H1.out⟩)⟩
 ·have H1 := hidden (And.intro h1 (And.intro h2 (And.intro h3 h5.2)))
  clear HQ h1 h2 h3 h4 h5
  go_wp2_with (first | (go_at_call 49; refine same_call (asP_yes _ _) ?_))
  go_ret2
  obtain ⟨h1, h2, h3, h4⟩ := H1.out
  exact ⟨_, _, rfl, HB, hidden (.inr ⟨a, bo, bn, bc, so, sn, sc, cs, rfl, rfl, h1, h2, h3, h4⟩)⟩
theorem nopen_1 (ao : Option Addr) (n cap : Nat) (l : List Int) (w : World) (hs : Sl w ao n cap l) (ht : Tab w) (h0 : 1 < w.heap.size) (he : egO l = 1) : Calls Tryz.prog 20 #[.slice ao n cap] w (NOpenP l w) := by
 have HE := hidden (engineOf_any ao n cap l w hs)
 rw [he] at HE
 have HL := hidden (layout_1 w)
 have HM : Hid (∀ u, Below w.heap.size w u → Calls Tryz.prog 51 #[.slice ao n cap] u (NOpenP l u)) := hidden fun u hu => openP_any ao n cap l u (hs.on (Nat.le_refl _) hu) (ht.on hu h0) (Nat.lt_of_lt_of_le h0 hu.size)
 clear hs ht h0 he
 go_enter Tryz.func20, Tryz.ntmps20
 go_wp2_with (first | (go_at_call 43; refine same_call HE.out ?_) | (go_at_call 22; refine HL.out.mono ?_; rintro e w1 ⟨rfl, HB1⟩) | (go_at_call 51; refine (HM.out _ (bl_al HB1.out (Nat.le_refl _) _)).mono ?_; rintro e w2 ⟨v, c, rfl, HB2, HQ2⟩; refine Hid.out ?_))
 apply hidden
 go_wp2
 go_ret2
 exact NOpenP.from ⟨v, c, rfl, HB2, HQ2⟩ (bl_al HB1.out (Nat.le_refl _) _)
end Go.Proofs.YtlhkinlgolcpaaaGreatDoor
