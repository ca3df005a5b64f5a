import Derived.Test.YtjpmfgoodcldcaaGreatDoorJ13
import Derived.Test.YtjpmfgoodcldcaaGreatDoorJ23
import Derived.Test.YtjpmfgoodcldcaaGreatDoorJ22
import Derived.Test.YtjpmfgoodcldcaaGreatDoorJ21
import Derived.Lib.SlBytesConst
namespace Go.Proofs.YtjpmfgoodcldcaaGreatDoor
set_option maxRecDepth 100000
open Go.RowKit
def egO (l : List Int) : Int := if l.length < 2 then 0 else l.getD 1 0
theorem engineOf_any (ao : Option Addr) (n cap : Nat) (l : List Int) (w : World) (hs : Sl w ao n cap l) :
  Calls Tryz.prog 58 #[.slice ao n cap] w fun e w' => e = .returned (.int .i64 (egO l)) ∧ w' = w := by
 have hlen := hs.hlen
 have hnr := hs.hroom
 unfold egO
 rw [hlen]
 by_cases h : n < 2
 ·rw [if_pos h]
  have hI : (n : Int) < 2 := by omega
  clear hs hlen
  go_enter Tryz.func58, Tryz.ntmps58
  go_wp2
  go_ret
  exact ⟨rfl, rfl⟩
 ·rw [if_neg h]
  have hI : ¬ (n : Int) < 2 := by omega
  have h1 : 1 < n := by omega
  obtain ⟨g, off, rfl, hc⟩ : ∃ g off, ao = some ⟨g, off, none⟩ ∧ w.cell? ⟨g, off + 1, none⟩ = some (.int .u8 (l.getD 1 0)) := by
   rcases hs.hat with h0 | ⟨g, off, e, _, hc⟩
   ·omega
   ·exact ⟨g, off, e, hc 1 h1⟩
  have hb := hs.wf.getD 1
  generalize l.getD 1 0 = x at *
  clear hs hlen
  go_enter Tryz.func58, Tryz.ntmps58
  go_wp2
  go_ret
  exact ⟨rfl, rfl⟩
end Go.Proofs.YtjpmfgoodcldcaaGreatDoor

namespace Go.Proofs.YtjpmfgoodcldcaaGreatDoor
set_option maxRecDepth 100000
open Go.RowKit
def cellE (cs : List Cl) (x : Int) : Cl := if 0 ≤ x ∧ x < (cs.length : Int) then (cs[x.toNat]?).getD ⟨[], 0, [], 0, 0⟩ else ⟨[], 0, [], 0, 0⟩
def CelO (c : Cl) (E : Int) (w : World) (e : Ending) (w' : World) : Prop :=
 ∃ ao a2 bo b2, e = .returned (.tuple #[.agg #[.slice ao c.key.length a2, .int .i64 c.kd, .slice bo c.val.length b2, .int .i64 c.pg, .int .i64 c.ct], .int .i64 E]) ∧ Hid (OwnB w' w.heap.size (.slice ao c.key.length a2) c.key ∧ OwnB w' w.heap.size (.slice bo c.val.length b2) c.val ∧ ∀ z, (Value.slice ao c.key.length a2).ownBlock = some z → ¬ (Value.slice bo c.val.length b2).ownBlock = some z) ∧ Hid (Below w.heap.size w w')
set_option maxHeartbeats 4000000 in
theorem cellO_any (w : World) (B a : Nat) (k : Int) (n : Nat) (vb vs : Value) (cs : List Cl) (x : Int) (hp : Po w B a k n vb vs cs) (hw : ∀ c ∈ cs, c.Wf) (hft : ∀ c ∈ cs, c.fit) (hz : szN cs ≤ n) (hn : n ≤ 65536) :
  Calls Tryz.prog 178 #[.pointer (some ⟨a, 0, none⟩), .int .i64 x] w (CelO (cellE cs x) (remE cs x) w) := by
 have hzc := szN_eq cs
 obtain ⟨s, hs⟩ : ∃ s, w.heap.size = s := ⟨_, rfl⟩
 obtain ⟨y, hy⟩ : ∃ y, w.alloc (.cells #[.slice none 0 0, .int .i64 0, .slice none 0 0, .int .i64 0, .int .i64 0] 32) = y := ⟨_, rfl⟩
 have hby : Below w.heap.size w y := by rw [← hy]; exact bl_al (Below.refl _ _) (Nat.le_refl _) _
 have HRES : Hid (C5 y s (.slice none 0 0) (.int .i64 0) (.slice none 0 0) (.int .i64 0) (.int .i64 0)) := by rw [← hy, ← hs]; exact hidden (C5.box _ _ _ _ _ _)
 have HBY := hidden hby
 have hpy := hp.on hby
 obtain ⟨bo, bc, rfl⟩ := hpy.body.slice
 obtain ⟨so, sc, rfl⟩ := hpy.starts.shape
 rw [sts_length] at hpy
 obtain ⟨sn, hsn⟩ : ∃ sn, cs.length = sn := ⟨_, rfl⟩
 have hys : s + 1 ≤ y.heap.size := by rw [← hy, ← hs]; simp
 have hpg := hpy.pg hw (by omega)
 have hrow := hpy.row
 unfold remE cellE
 rw [hsn] at hpg hrow ⊢
 by_cases hx : 0 ≤ x ∧ x < (sn : Int)
 ·rw [if_pos hx, if_pos hx]
  obtain ⟨i, rfl⟩ : ∃ i : Nat, x = (i : Int) := ⟨x.toNat, by omega⟩
  rw [Int.toNat_natCast]
  have hi : i < cs.length := by omega
  obtain ⟨c, hci⟩ : ∃ c, cs[i]? = some c := ⟨_, List.getElem?_eq_getElem hi⟩
  rw [hci, Option.getD_some]
  have HH := hidden (has_any y a k n _ so sn sc hrow (i : Int) true ⟨fun _ => hx, fun _ => rfl⟩)
  have HVW := hidden (view_any y a k n bo _ bc so sn sc cs hpg hft i hi c hci (by omega))
  obtain ⟨key, kd, val, pg, ct⟩ := c
  simp only at HVW ⊢
  have HYS := hidden hys
  have HSW := hidden hs
  have hiI : (i : Int) < (sn : Int) := hx.2
  clear hp hpy hpg hrow hci hw hft hby hsn hys hx hz hzc hi
  go_enter Tryz.func178, Tryz.ntmps178
  go_wp2_with (first
   | (go_at_call 185; refine same_call HH.out ?_)
   | (go_at_call 82; refine HVW.out.mono ?_; rintro e u1 ⟨ko, kn, kc, vo, vn, vc, rfl, HK, HV, HU1⟩; refine Hid.out ?_))
  apply hidden
  have HC := hidden (copied_any ko kn kc kd vo vn vc pg ct key val u1 HK.out HV.out)
  have HKL := hidden HK.out.hlen
  have HVL := hidden HV.out.hlen
  have HKR := hidden HK.out.hroom
  have HVR := hidden HV.out.hroom
  clear HH HVW
  go_wp2_with (first | (go_at_call 81; refine HC.out.mono ?_; rintro e u2 ⟨g1, g2, rfl, HG, HU2⟩; refine Hid.out ?_))
  apply hidden
  have hres1 : C5 u2 s (.slice none 0 0) (.int .i64 0) (.slice none 0 0) (.int .i64 0) (.int .i64 0) := box_on (box_on HRES.out HU1.out) HU2.out
  have HR2 := hidden hres1
  obtain ⟨b0, b1, b2', b3, b4⟩ := hres1.cells
  obtain ⟨h0, h1, h2, h3, h4⟩ := hres1.free
  clear hres1 HC
  go_wp2
  refine bodyPost_ret (results_row28 rfl _ _ s 32 #[.slice (some ⟨g1, 0, none⟩) kn kn, .int .i64 kd, .slice (some ⟨g2, 0, none⟩) vn vn, .int .i64 pg, .int .i64 ct] (0, 0) _ (.int .i64 0) (by rfl) (by rfl) (HR2.out.put _ _ _ _ _) Tryz.underlying32 rfl sizeCell) rfl ?_
  have hf := put5_cf u2 s (.slice (some ⟨g1, 0, none⟩) kn kn) (.int .i64 kd) (.slice (some ⟨g2, 0, none⟩) vn vn) (.int .i64 pg) (.int .i64 ct)
  have hys := HYS.out
  have hsw := HSW.out
  have hkl := HKL.out
  have hvl := HVL.out
  have hkr := HKR.out
  have hvr := HVR.out
  have hu1 := HU1.out.size
  obtain ⟨hg1, hg2, hg3, hg4, hg5⟩ := HG.out
  have hbu := bl_go (bl_go HBY.out (Nat.le_refl _) HU1.out) (Nat.le_refl _) HU2.out
  subst hkl
  subst hvl
  refine ⟨some ⟨g1, 0, none⟩, key.length, some ⟨g2, 0, none⟩, val.length, rfl, hidden ⟨?_, ?_, ?_⟩, hidden (hbu.trans (hf.below hbu.size (by intro i hi e; omega)))⟩
  ·exact own_of_heap (l := key) (hg1.cf hf (hg1.apart5 HR2.out)) (by omega) (Nat.le_trans hkr (by unfold maxLen; decide))
  ·exact own_of_heap (l := val) (hg2.cf hf (hg2.apart5 HR2.out)) (by omega) (Nat.le_trans hvr (by unfold maxLen; decide))
  ·intro z h1 h2
   have e1 : g1 = z := by simpa [Value.ownBlock] using h1
   have e2 : g2 = z := by simpa [Value.ownBlock] using h2
   exact hg5 (e1.trans e2.symm)
 ·rw [if_neg hx, if_neg hx]
  have HH := hidden (has_any y a k n _ so sn sc hrow x false ⟨fun h => (by cases h), fun h => absurd h hx⟩)
  obtain ⟨b0, b1, b2', b3, b4⟩ := HRES.out.cells
  obtain ⟨h0, h1, h2, h3, h4⟩ := HRES.out.free
  have hf := put5_cf y s (.slice none 0 0) (.int .i64 0) (.slice none 0 0) (.int .i64 0) (.int .i64 0)
  have HF := hidden hf
  have HS := hidden hs
  clear hp hpy hpg hrow hw hft hby hsn hys hf hx hz hzc
  go_enter Tryz.func178, Tryz.ntmps178
  go_wp2_with (first | (go_at_call 185; refine same_call HH.out ?_))
  refine bodyPost_ret (results_row28 rfl _ _ s 32 #[.slice none 0 0, .int .i64 0, .slice none 0 0, .int .i64 0, .int .i64 0] (0, 0) _ (.int .i64 64) (by rfl) (by rfl) (HRES.out.put _ _ _ _ _) Tryz.underlying32 rfl sizeCell) rfl ?_
  exact ⟨none, 0, none, 0, rfl, hidden ⟨OwnB.nil _ _, OwnB.nil _ _, fun z h1 => (by simp [Value.ownBlock] at h1)⟩, hidden (HBY.out.trans (HF.out.below HBY.out.size (by intro i hi e; have := HS.out; omega)))⟩
end Go.Proofs.YtjpmfgoodcldcaaGreatDoor

namespace Go.Proofs.YtjpmfgoodcldcaaGreatDoor
set_option maxRecDepth 100000
open Go.RowKit
theorem Po.low {w : World} {B C a : Nat} {k : Int} {n : Nat} {vb vs : Value} {cs : List Cl} (h : Po w C a k n vb vs cs) (hB : B ≤ C) : Po w B a k n vb vs cs := ⟨h.row, h.body.low hB, h.starts.lowN hB⟩
def NOpenP (l : List Int) (w : World) (e : Ending) (w' : World) : Prop :=
 ∃ v c, e = .returned (.tuple #[v, .int .i64 c]) ∧ Hid (Below w.heap.size w w') ∧ Hid ((v = .nilIface ∧ c = 60 ∧ ¬ ∃ cs, Is (l.getD 0 0) l.length cs l) ∨ ∃ a bo bn bc so sn sc cs, v = iP a ∧ c = 0 ∧ w.heap.size ≤ a ∧ Is (l.getD 0 0) l.length cs l ∧ (∀ c ∈ cs, c.Wf) ∧ Po w' w.heap.size a (l.getD 0 0) l.length (.slice bo bn bc) (.slice so sn sc) cs)
theorem NOpenP.from {l : List Int} {w u w' : World} {e : Ending} (h : NOpenP l u e w') (hb : Below w.heap.size w u) : NOpenP l w e w' := by
 obtain ⟨v, c, rfl, HB, HQ⟩ := h
 refine ⟨v, c, rfl, hidden (bl_go hb (Nat.le_refl _) HB.out), hidden ?_⟩
 rcases HQ.out with h | ⟨a, bo, bn, bc, so, sn, sc, cs, h1, h2, h3, h4, h5, h6⟩
 ·exact .inl h
 ·exact .inr ⟨a, bo, bn, bc, so, sn, sc, cs, h1, h2, Nat.le_trans hb.size h3, h4, h5, h6.low hb.size⟩
theorem openP_any (ao : Option Addr) (n cap : Nat) (l : List Int) (w : World) (hs : Sl w ao n cap l) (ht : Tab w) (h0 : 1 < w.heap.size) : Calls Tryz.prog 65 #[.slice ao n cap] w (NOpenP l w) := by
 have HN := hidden (open_po ao n cap l w hs ht h0)
 clear hs ht h0
 go_enter Tryz.func65, Tryz.ntmps65
 go_wp2_with (first | (go_at_call 66; refine HN.out.mono ?_; rintro e w1 ⟨po, c, rfl, HB, HQ⟩; refine Hid.out ?_))
 apply hidden
 clear HN
 rcases HQ.out with ⟨rfl, rfl, hn⟩ | ⟨a, bo, bn, bc, so, sn, sc, cs, rfl, rfl, h1, h2, h3, h4, h5⟩
 ·have H1 := hidden hn
  clear HQ hn
  go_wp2_with (first | (go_at_call 63; refine same_call (asP_no _ _ (by decide) _) ?_))
  go_ret2
  exact ⟨_, _, rfl, HB, hidden (.inl ⟨rfl, rfl, H1.out⟩)⟩
 ·have H1 := hidden (And.intro h1 (And.intro h2 (And.intro h3 h5.2)))
  clear HQ h1 h2 h3 h4 h5
  go_wp2_with (first | (go_at_call 63; refine same_call (asP_yes _ _) ?_))
  go_ret2
  obtain ⟨h1, h2, h3, h4⟩ := H1.out
  exact ⟨_, _, rfl, HB, hidden (.inr ⟨a, bo, bn, bc, so, sn, sc, cs, rfl, rfl, h1, h2, h3, h4⟩)⟩
theorem nopen_1 (ao : Option Addr) (n cap : Nat) (l : List Int) (w : World) (hs : Sl w ao n cap l) (ht : Tab w) (h0 : 1 < w.heap.size) (he : egO l = 1) : Calls Tryz.prog 56 #[.slice ao n cap] w (NOpenP l w) := by
 have HE := hidden (engineOf_any ao n cap l w hs)
 rw [he] at HE
 have HL := hidden (layout_1 w)
 have HM : Hid (∀ u, Below w.heap.size w u → Calls Tryz.prog 65 #[.slice ao n cap] u (NOpenP l u)) := hidden fun u hu => openP_any ao n cap l u (hs.on (Nat.le_refl _) hu) (ht.on hu h0) (Nat.lt_of_lt_of_le h0 hu.size)
 clear hs ht h0 he
 go_enter Tryz.func56, Tryz.ntmps56
 go_wp2_with (first | (go_at_call 58; refine same_call HE.out ?_) | (go_at_call 57; refine HL.out.mono ?_; rintro e w1 ⟨rfl, HB1⟩) | (go_at_call 65; refine (HM.out _ (bl_al HB1.out (Nat.le_refl _) _)).mono ?_; rintro e w2 ⟨v, c, rfl, HB2, HQ2⟩; refine Hid.out ?_))
 apply hidden
 go_wp2
 go_ret2
 exact NOpenP.from ⟨v, c, rfl, HB2, HQ2⟩ (bl_al HB1.out (Nat.le_refl _) _)
end Go.Proofs.YtjpmfgoodcldcaaGreatDoor

namespace Go.Proofs.YtjpmfgoodcldcaaGreatDoor
set_option maxRecDepth 100000
open Go.RowKit
theorem pw512 : pw 512 := by decide
theorem isKd2 : isKd 2 := by decide
theorem conv6H (w : World) (C : Array Value) (n c H : Nat) (hH : w.heap.size = H) : (convert 30 30 (.slice (some ⟨H, 0, none⟩) n c)).run Tryz.prog (w.alloc (.cells C 5)) = .ok (.slice (some ⟨H, 0, none⟩) n c) (w.alloc (.cells C 5 (C.size, C.size + 1))) := by
 subst hH
 exact Lib.run_convert_bytes_const (P := Tryz.prog) w 30 5 C n c Tryz.underlying30 Tryz.underlying5
end Go.Proofs.YtjpmfgoodcldcaaGreatDoor

namespace Go.Proofs.YtjpmfgoodcldcaaGreatDoor
set_option maxRecDepth 100000
open Go.RowKit
theorem sl_lit (u : World) (C : List Int) (n : Nat) (fr : Nat × Nat) (g : Nat) (h : u.heap[g]? = some (.cells (By C).toArray 5 fr)) (hn : C.length = n) (hw : Wf C) (hb : n ≤ 65536) : Sl u (some ⟨g, 0, none⟩) n n C := by
 refine ⟨hn, Nat.le_refl _, by omega, hw, (by intro h; cases h), .inr ⟨g, 0, rfl, lt_some h, fun i hi => ?_⟩⟩
 rw [Nat.zero_add, cell_of_row _ _ i _ _ _ h]
 simp [By, List.getD, List.getElem?_eq_getElem (show i < C.length by omega)]
end Go.Proofs.YtjpmfgoodcldcaaGreatDoor

namespace Go.Proofs.YtjpmfgoodcldcaaGreatDoor
set_option maxRecDepth 100000
open Go.RowKit
theorem Fnd.one {cs : List Cl} {q : List Int} {r s : Nat} (h : Fnd cs q r) (g : Fnd cs q s) : r = s := by
 rcases Nat.lt_trichotomy r s with e | e | e
 ·obtain ⟨c, hc⟩ : ∃ c, cs[r]? = some c := ⟨_, List.getElem?_eq_getElem (by have := g.le; omega)⟩
  exact absurd (g.lo r c e hc) (h.hi r c (Nat.le_refl _) hc)
 ·exact e
 ·obtain ⟨c, hc⟩ : ∃ c, cs[s]? = some c := ⟨_, List.getElem?_eq_getElem (by have := h.le; omega)⟩
  exact absurd (h.lo s c e hc) (g.hi s c (Nat.le_refl _) hc)
end Go.Proofs.YtjpmfgoodcldcaaGreatDoor
