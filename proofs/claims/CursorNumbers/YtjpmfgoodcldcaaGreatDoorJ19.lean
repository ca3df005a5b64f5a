import Derived.Test.YtjpmfgoodcldcaaGreatDoorJ18
import Derived.Deep.MidRow
import Derived.Deep.Upon
import Derived.Laws.IdiomCopy
namespace Go.Proofs.YtjpmfgoodcldcaaGreatDoor
set_option maxRecDepth 100000
open Go.RowKit
def CopTo (key val : List Int) (kn : Nat) (kd : Int) (vn : Nat) (pg ct : Int) (w : World) (e : Ending) (w' : World) : Prop :=
 ∃ g1 g2, e = .returned (.agg #[.slice (some ⟨g1, 0, none⟩) kn kn, .int .i64 kd, .slice (some ⟨g2, 0, none⟩) vn vn, .int .i64 pg, .int .i64 ct]) ∧ Hid (Bk w' g1 key ∧ Bk w' g2 val ∧ w.heap.size ≤ g1 ∧ w.heap.size ≤ g2 ∧ g1 ≠ g2) ∧ Hid (Below w.heap.size w w')
theorem Bk.apart5 {w : World} {g h : Nat} {l : List Int} {x0 x1 x2 x3 x4 : Value} (hb : Bk w g l) (hc : C5 w h x0 x1 x2 x3 x4) : ¬ g = h := by
 rintro rfl
 unfold Bk at hb
 unfold C5 at hc
 rw [hb] at hc
 simp at hc
set_option maxHeartbeats 1000000 in
theorem copied_any (ka : Option Addr) (kn kc : Nat) (kd : Int) (va : Option Addr) (vn vc : Nat) (pg ct : Int) (key val : List Int) (w : World) (hk : Sl w ka kn kc key) (hv : Sl w va vn vc val) :
  Calls Tryz.prog 81 #[.agg #[.slice ka kn kc, .int .i64 kd, .slice va vn vc, .int .i64 pg, .int .i64 ct]] w fun e w' => CopTo key val kn kd vn pg ct w e w' := by
 obtain ⟨s, hs⟩ : ∃ s, w.heap.size = s := ⟨_, rfl⟩
 obtain ⟨x, hx⟩ : ∃ x, (w.alloc (.cells #[.slice ka kn kc, .int .i64 kd, .slice va vn vc, .int .i64 pg, .int .i64 ct] 32)).alloc (.cells #[.slice none 0 0, .int .i64 0, .slice none 0 0, .int .i64 0, .int .i64 0] 32) = x := ⟨_, rfl⟩
 have hbx : Below w.heap.size w x := by rw [← hx]; exact bl_al (bl_al (Below.refl _ _) (Nat.le_refl _) _) (Nat.le_refl _) _
 have HBOX : Hid (C5 x s (.slice ka kn kc) (.int .i64 kd) (.slice va vn vc) (.int .i64 pg) (.int .i64 ct)) := by
  rw [← hx, ← hs]
  exact hidden ((Below.heap_alloc _ _ _ (by simp)).trans (heap_alloc_last w _))
 have HRES : Hid (C5 x (s + 1) (.slice none 0 0) (.int .i64 0) (.slice none 0 0) (.int .i64 0) (.int .i64 0)) := by
  rw [← hx, ← hs]
  have hz : (w.alloc (.cells #[.slice ka kn kc, .int .i64 kd, .slice va vn vc, .int .i64 pg, .int .i64 ct] 32)).heap.size = w.heap.size + 1 := by simp
  have := heap_alloc_last (w.alloc (.cells #[.slice ka kn kc, .int .i64 kd, .slice va vn vc, .int .i64 pg, .int .i64 ct] 32)) (.cells #[.slice none 0 0, .int .i64 0, .slice none 0 0, .int .i64 0, .int .i64 0] 32)
  rw [hz] at this
  exact hidden this
 have HK := hidden (hk.on (Nat.le_refl _) hbx)
 have HV := hidden (hv.on (Nat.le_refl _) hbx)
 have HBX := hidden hbx
 have hxs : x.heap.size = s + 2 := by rw [← hx, ← hs]; simp
 have HXS := hidden hxs
 have C1 : Hid (∀ u, Below x.heap.size x u → Calls Tryz.prog 109 #[.slice ka kn kc] u fun e u' => ∃ g, e = .returned (.slice (some ⟨g, 0, none⟩) kn kn) ∧ Hid (Bk u' g key ∧ x.heap.size ≤ g) ∧ Hid (Below x.heap.size x u') ∧ (u'.cell? ⟨s, 0, none⟩ = some (.slice ka kn kc) ∧ u'.cell? ⟨s, 1, none⟩ = some (.int .i64 kd) ∧ u'.cell? ⟨s, 2, none⟩ = some (.slice va vn vc) ∧ u'.cell? ⟨s, 3, none⟩ = some (.int .i64 pg) ∧ u'.cell? ⟨s, 4, none⟩ = some (.int .i64 ct))) := by
  refine hidden fun u hu => (copiedBytes_any ka kn kc key u (HK.out.on (Nat.le_refl _) hu)).mono ?_
  rintro e u' ⟨rfl, hb, hbe⟩
  have hb2 := bl_go hu (Nat.le_refl _) hbe.out
  exact ⟨u.heap.size, rfl, hidden ⟨hb.out, hu.size⟩, hidden hb2, (show C5 u' s (.slice ka kn kc) (.int .i64 kd) (.slice va vn vc) (.int .i64 pg) (.int .i64 ct) from box_on HBOX.out hb2).cells⟩
 have C2 : Hid (∀ u g1, Hid (Bk u g1 key ∧ x.heap.size ≤ g1) → Hid (Below x.heap.size x u) → Calls Tryz.prog 109 #[.slice va vn vc] u fun e u' => ∃ g, e = .returned (.slice (some ⟨g, 0, none⟩) vn vn) ∧ Hid (Bk u' g val ∧ Bk u' g1 key ∧ x.heap.size ≤ g ∧ x.heap.size ≤ g1 ∧ g1 ≠ g) ∧ Hid (Below x.heap.size x u') ∧ (u'.cell? ⟨s, 0, none⟩ = some (.slice ka kn kc) ∧ u'.cell? ⟨s, 1, none⟩ = some (.int .i64 kd) ∧ u'.cell? ⟨s, 2, none⟩ = some (.slice va vn vc) ∧ u'.cell? ⟨s, 3, none⟩ = some (.int .i64 pg) ∧ u'.cell? ⟨s, 4, none⟩ = some (.int .i64 ct)) ∧ (u'.frozen? ⟨s, 0, none⟩ = false ∧ u'.frozen? ⟨s, 1, none⟩ = false ∧ u'.frozen? ⟨s, 2, none⟩ = false ∧ u'.frozen? ⟨s, 3, none⟩ = false ∧ u'.frozen? ⟨s, 4, none⟩ = false)) := by
  refine hidden fun u g1 hg hu => (copiedBytes_any va vn vc val u (HV.out.on (Nat.le_refl _) hu.out)).mono ?_
  rintro e u' ⟨rfl, hb, hbe⟩
  have hb2 := bl_go hu.out (Nat.le_refl _) hbe.out
  have h5 : C5 u' s (.slice ka kn kc) (.int .i64 kd) (.slice va vn vc) (.int .i64 pg) (.int .i64 ct) := box_on HBOX.out hb2
  exact ⟨u.heap.size, rfl, hidden ⟨hb.out, hg.out.1.on hbe.out, hu.out.size, hg.out.2, Nat.ne_of_lt (lt_some hg.out.1)⟩, hidden hb2, h5.cells, h5.free⟩
 obtain ⟨c0, c1, c2, c3, c4⟩ := HBOX.out.cells
 clear hk hv hbx hxs
 go_enter Tryz.func81, Tryz.ntmps81
 go_wp2_with fail
 go_region_law (first
  | (go_simp; go_at_call 109; refine (C2.out _ g1 HG1 HB1).mono ?_; rintro e u2 ⟨g2, rfl, HG2, HB2, ⟨z0, z1, z2, z3, z4⟩, f0, f1, f2, f3, f4⟩)
  | (go_simp; go_at_call 109; refine (C1.out _ (by first | exact Below.refl _ _ | exact (Below.refl _ _).drew | exact bl_dr (Below.refl _ _) _)).mono ?_; rintro e u1 ⟨g1, rfl, HG1, HB1, y0, y1, y2, y3, y4⟩))
 all_goals
  obtain ⟨y, hy⟩ : ∃ y, (u2.setCell ⟨s, 0, none⟩ (.slice (some ⟨g1, 0, none⟩) kn kn)).setCell ⟨s, 2, none⟩ (.slice (some ⟨g2, 0, none⟩) vn vn) = y := ⟨_, rfl⟩
  have hbox2 : C5 u2 s (.slice ka kn kc) (.int .i64 kd) (.slice va vn vc) (.int .i64 pg) (.int .i64 ct) := box_on HBOX.out HB2.out
  have hres2 : C5 u2 (s + 1) (.slice none 0 0) (.int .i64 0) (.slice none 0 0) (.int .i64 0) (.int .i64 0) := box_on HRES.out HB2.out
  have hcy : Cf (· = s) u2 y := by rw [← hy]; exact (Cf.set _ _ _ _).go (Cf.set _ _ _ _)
  have HBY : Hid (C5 y s (.slice (some ⟨g1, 0, none⟩) kn kn) (.int .i64 kd) (.slice (some ⟨g2, 0, none⟩) vn vn) (.int .i64 pg) (.int .i64 ct)) := by
   rw [← hy]
   exact hidden ((hbox2.set _).1.set _).2.2.1
  have HRY : Hid (C5 y (s + 1) (.slice none 0 0) (.int .i64 0) (.slice none 0 0) (.int .i64 0) (.int .i64 0)) := hidden (hres2.cf hcy (by omega))
  have HG1Y : Hid (Bk y g1 key) := hidden (HG2.out.2.1.cf hcy (HG2.out.2.1.apart5 hbox2))
  have HG2Y : Hid (Bk y g2 val) := hidden (HG2.out.1.cf hcy (HG2.out.1.apart5 hbox2))
  have HBEY : Hid (Below w.heap.size w y) := hidden ((HBX.out.trans (HB2.out.mono (HBX.out.size))).trans (hcy.below (Nat.le_trans HBX.out.size HB2.out.size) (by intro i hi e; omega)))
  rw [hy]
  clear hy hcy hbox2 hres2 y0 y1 y2 y3 y4 z0 z1 z2 z3 z4 f0 f1 f2 f3 f4 c0 c1 c2 c3 c4
  obtain ⟨c0, c1, c2, c3, c4⟩ := HBY.out.cells
  obtain ⟨b0, b1, b2, b3, b4⟩ := HRY.out.cells
  obtain ⟨f0, f1, f2, f3, f4⟩ := HRY.out.free
  go_wp2
  refine bodyPost_ret (results_cell_row rfl _ _ (s + 1) 32 #[.slice (some ⟨g1, 0, none⟩) kn kn, .int .i64 kd, .slice (some ⟨g2, 0, none⟩) vn vn, .int .i64 pg, .int .i64 ct] (0, 0) _ (by rfl) (HRY.out.put _ _ _ _ _) Tryz.underlying32 rfl sizeCell) rfl ?_
  have hf := put5_cf y (s + 1) (.slice (some ⟨g1, 0, none⟩) kn kn) (.int .i64 kd) (.slice (some ⟨g2, 0, none⟩) vn vn) (.int .i64 pg) (.int .i64 ct)
  obtain ⟨_, _, q3, q4, q5⟩ := HG2.out
  have := HXS.out
  exact ⟨g1, g2, rfl, hidden ⟨HG1Y.out.cf hf (HG1Y.out.apart5 HRY.out), HG2Y.out.cf hf (HG2Y.out.apart5 HRY.out), by omega, by omega, q5⟩, hidden (HBEY.out.trans (hf.below HBEY.out.size (by intro i hi e; omega)))⟩
end Go.Proofs.YtjpmfgoodcldcaaGreatDoor

namespace Go.Proofs.YtjpmfgoodcldcaaGreatDoor
set_option maxRecDepth 100000
open Go.RowKit
def CAt (w : World) (b off : Nat) (c : Cl) : Prop :=
 ∃ ka kc va vc, w.cell? ⟨b, off, none⟩ = some (.slice ka c.key.length kc) ∧ w.cell? ⟨b, off + 1, none⟩ = some (.int .i64 c.kd) ∧ w.cell? ⟨b, off + 2, none⟩ = some (.slice va c.val.length vc) ∧ w.cell? ⟨b, off + 3, none⟩ = some (.int .i64 c.pg) ∧ w.cell? ⟨b, off + 4, none⟩ = some (.int .i64 c.ct) ∧ Sl w ka c.key.length kc c.key ∧ Sl w va c.val.length vc c.val
structure SlC (w : World) (ao : Option Addr) (n cap : Nat) (cs : List Cl) : Prop where
 hlen : cs.length = n
 hcap : n ≤ cap
 hroom : n ≤ 140737488355328
 hnil : ao = none → cap = 0
 hat : n = 0 ∨ ∃ b off, ao = some ⟨b, off, none⟩ ∧ b < w.heap.size ∧ ∀ i c, cs[i]? = some c → CAt w b (off + i * 5) c
theorem CAt.on {w w' : World} {b off : Nat} {c : Cl} (h : CAt w b off c) (hb : b < w.heap.size) (hB : Below w.heap.size w w') : CAt w' b off c := by
 obtain ⟨ka, kc, va, vc, h0, h1, h2, h3, h4, h5, h6⟩ := h
 exact ⟨ka, kc, va, vc, (hB.cell (p := ⟨b, off, none⟩) hb).trans h0, (hB.cell (p := ⟨b, off + 1, none⟩) hb).trans h1, (hB.cell (p := ⟨b, off + 2, none⟩) hb).trans h2, (hB.cell (p := ⟨b, off + 3, none⟩) hb).trans h3, (hB.cell (p := ⟨b, off + 4, none⟩) hb).trans h4, h5.on (Nat.le_refl _) hB, h6.on (Nat.le_refl _) hB⟩
theorem SlC.on {w w' : World} {ao : Option Addr} {n cap : Nat} {cs : List Cl} (h : SlC w ao n cap cs) (hB : Below w.heap.size w w') : SlC w' ao n cap cs := by
 refine ⟨h.hlen, h.hcap, h.hroom, h.hnil, ?_⟩
 rcases h.hat with h0 | ⟨b, off, e, hb, hc⟩
 ·exact .inl h0
 ·exact .inr ⟨b, off, e, Nat.lt_of_lt_of_le hb hB.size, fun i c hi => (hc i c hi).on hb hB⟩
theorem SlC.wf {w : World} {ao : Option Addr} {n cap : Nat} {cs : List Cl} (h : SlC w ao n cap cs) : ∀ c ∈ cs, c.Wf := by
 intro c hc
 obtain ⟨i, hi, e⟩ := List.getElem_of_mem hc
 rcases h.hat with h0 | ⟨b, off, _, _, hcs⟩
 ·have := h.hlen; omega
 ·obtain ⟨_, _, _, _, _, _, _, _, _, h5, h6⟩ := hcs i c (by rw [List.getElem?_eq_getElem hi, e])
  exact ⟨h5.wf, h6.wf⟩
end Go.Proofs.YtjpmfgoodcldcaaGreatDoor

namespace Go.Proofs.YtjpmfgoodcldcaaGreatDoor
set_option maxRecDepth 100000
open Go.RowKit
theorem szN_take (cs : List Cl) (i : Nat) (c : Cl) (h : cs[i]? = some c) : szN (cs.take (i + 1)) = szN (cs.take i) + ctk c := by
 have hi := (List.getElem?_eq_some_iff.1 h).1
 have e := (List.getElem?_eq_some_iff.1 h).2
 unfold szN
 rw [List.take_add_one, h]
 simp
 omega
theorem SlC.item {w : World} {ao : Option Addr} {n cap : Nat} {cs : List Cl} (h : SlC w ao n cap cs) (i : Nat) (hi : i < n) : ∃ b off c ka kc va vc, ao = some ⟨b, off, none⟩ ∧ b < w.heap.size ∧ cs[i]? = some c ∧
  w.cell? ⟨b, off + i * 5, none⟩ = some (.slice ka c.key.length kc) ∧ w.cell? ⟨b, off + i * 5 + 1, none⟩ = some (.int .i64 c.kd) ∧ w.cell? ⟨b, off + i * 5 + 2, none⟩ = some (.slice va c.val.length vc) ∧ w.cell? ⟨b, off + i * 5 + 3, none⟩ = some (.int .i64 c.pg) ∧ w.cell? ⟨b, off + i * 5 + 4, none⟩ = some (.int .i64 c.ct) ∧ Sl w ka c.key.length kc c.key ∧ Sl w va c.val.length vc c.val := by
 have hl := h.hlen
 rcases h.hat with h0 | ⟨b, off, e, hb, hc⟩
 ·omega
 ·obtain ⟨c, hci⟩ : ∃ c, cs[i]? = some c := ⟨_, List.getElem?_eq_getElem (by omega)⟩
  obtain ⟨ka, kc, va, vc, h0⟩ := hc i c hci
  exact ⟨b, off, c, ka, kc, va, vc, e, hb, hci, h0⟩
end Go.Proofs.YtjpmfgoodcldcaaGreatDoor

namespace Go.Proofs.YtjpmfgoodcldcaaGreatDoor
set_option maxRecDepth 100000
open Go.RowKit
theorem OwnB.slice {w : World} {B : Nat} {v : Value} {l : List Int} (h : OwnB w B v l) : ∃ ao cap, v = .slice ao l.length cap := by
 unfold OwnB at h
 rcases h.2 with ⟨rfl, h0⟩ | ⟨g, cap, cur, rfl, _⟩
 ·exact ⟨none, 0, by rw [h0]⟩
 ·exact ⟨_, cap, rfl⟩
end Go.Proofs.YtjpmfgoodcldcaaGreatDoor

namespace Go.Proofs.YtjpmfgoodcldcaaGreatDoor
set_option maxRecDepth 100000
open Go.RowKit
def encE (k n : Int) (cs : List Cl) : Int := if isKd k ∧ pw n then (if chk k n none cs = 0 then (if n < szN cs then 61 else 0) else chk k n none cs) else 1
theorem chk_step (k n : Int) (cs : List Cl) (j : Nat) (c : Cl) (h : cs[j]? = some c) : chk k n (prv (cs.take j)) (cs.drop j) = if mayP k n c then (if ahead (prv (cs.take j)) c.key then chk k n (prv (cs.take (j + 1))) (cs.drop (j + 1)) else 63) else 62 := by
 obtain ⟨hj, e⟩ := List.getElem?_eq_some_iff.1 h
 rw [List.drop_eq_getElem_cons hj, e, chk]
 have : prv (cs.take (j + 1)) = some c.key := by
  rw [List.take_add_one, h]
  simp [prv]
 rw [this]
end Go.Proofs.YtjpmfgoodcldcaaGreatDoor
