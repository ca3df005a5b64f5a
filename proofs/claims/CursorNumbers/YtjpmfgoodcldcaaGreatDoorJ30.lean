import Derived.Test.YtjpmfgoodcldcaaGreatDoorJ29
import Derived.Test.YtjpmfgoodcldcaaGreatDoorJ24
namespace Go.Proofs.YtjpmfgoodcldcaaGreatDoor
set_option maxRecDepth 100000
open Go.RowKit
theorem meth_cell (a : Nat) (w : World) : (method 301 99 (.pointer (some ⟨a, 0, none⟩)) "Cell").run Tryz.prog w = .ok (178, .pointer (some ⟨a, 0, none⟩)) w := by kernel_rfl
theorem nil_cell (a : Nat) (w : World) : (nilAhead 301 99 (.pointer (some ⟨a, 0, none⟩)) "Cell").run Tryz.prog w = .ok (some false) w := by kernel_rfl
section
variable {w : World} {c b m E0 E : Nat} {rd : Int} {cs : List Cl}
theorem cell_no (h : S0 b m E0 E c rd cs w) : Calls Tryz.prog 12 #[pB c] w fun e u => e = .returned (.tuple #[.agg #[.slice none 0 0, .int .i64 0, .slice none 0 0, .int .i64 0, .int .i64 0], .int .i64 130]) ∧ Hid (Below w.heap.size w u) := by
 obtain ⟨s, hs⟩ : ∃ s, w.heap.size = s := ⟨_, rfl⟩
 obtain ⟨y, hy⟩ : ∃ y, w.alloc (.cells #[.slice none 0 0, .int .i64 0, .slice none 0 0, .int .i64 0, .int .i64 0] 32) = y := ⟨_, rfl⟩
 have hby : Below w.heap.size w y := by rw [← hy]; exact bl_al (Below.refl _ _) (Nat.le_refl _) _
 have HRES : Hid (C5 y s (.slice none 0 0) (.int .i64 0) (.slice none 0 0) (.int .i64 0) (.int .i64 0)) := by rw [← hy, ← hs]; exact hidden (C5.box _ _ _ _ _ _)
 have HBY := hidden hby
 have HST := hidden (stands_0 (h.on hby).1)
 have hf := put5_cf y s (.slice none 0 0) (.int .i64 0) (.slice none 0 0) (.int .i64 0) (.int .i64 0)
 have HF := hidden hf
 have HS := hidden hs
 obtain ⟨b0, b1, b2', b3, b4⟩ := HRES.out.cells
 obtain ⟨h0, h1, h2, h3, h4⟩ := HRES.out.free
 clear h hby hf
 go_enter Tryz.func12, Tryz.ntmps12
 go_wp2_with (first | (go_at_call 36; refine same_call HST.out ?_))
 refine bodyPost_ret (results_row28 rfl _ _ s 32 #[.slice none 0 0, .int .i64 0, .slice none 0 0, .int .i64 0, .int .i64 0] (0, 0) _ (.int .i64 130) (by rfl) (by rfl) (HRES.out.put _ _ _ _ _) Tryz.underlying32 rfl sizeCell) rfl ?_
 exact ⟨rfl, hidden (HBY.out.trans (HF.out.below HBY.out.size (by intro i hi e; have := HS.out; omega)))⟩
set_option maxHeartbeats 2000000 in
theorem cell_yes {r : Nat} {cl : Cl} (h : Sn13 b m E0 E c (r : Int) rd cs w) (g : Gd1 cs) (hc : cs[r]? = some cl) :
  Calls Tryz.prog 12 #[pB c] w (CelO cl 0 w) := by
 obtain ⟨a, B, h1, h2, h3, h4, h5⟩ := h
 obtain ⟨s, hs⟩ : ∃ s, w.heap.size = s := ⟨_, rfl⟩
 obtain ⟨y, hy⟩ : ∃ y, w.alloc (.cells #[.slice none 0 0, .int .i64 0, .slice none 0 0, .int .i64 0, .int .i64 0] 32) = y := ⟨_, rfl⟩
 have hby : Below w.heap.size w y := by rw [← hy]; exact bl_al (Below.refl _ _) (Nat.le_refl _) _
 have HRES : Hid (C5 y s (.slice none 0 0) (.int .i64 0) (.slice none 0 0) (.int .i64 0) (.int .i64 0)) := by rw [← hy, ← hs]; exact hidden (C5.box _ _ _ _ _ _)
 have HBY := hidden hby
 have HCU := hidden (h2.on hby)
 have HST := hidden (stands_1 (h2.on hby))
 have HEN := hidden (end_1 (h2.on hby))
 have hrl : r < cs.length := (List.getElem?_eq_some_iff.1 hc).1
 have HCL : Hid (∀ u, Below y.heap.size y u → Calls Tryz.prog 178 #[.pointer (some ⟨a, 0, none⟩), .int .i64 (r : Int)] u (CelO cl 0 u)) := hidden fun u hu => by
  obtain ⟨_, vb, vs, hp⟩ := (h3.on hby).on hu
  have h := cellO_any u B a 2 512 vb vs cs (r : Int) hp g.wf g.fit (by have := g.sz; omega) (by omega)
  have e1 : cellE cs (r : Int) = cl := by unfold cellE; rw [if_pos ⟨by omega, by omega⟩, Int.toNat_natCast, hc]; rfl
  have e2 : remE cs (r : Int) = 0 := by unfold remE; rw [if_pos ⟨by omega, by omega⟩]
  rw [e1, e2] at h
  exact h
 have HS := hidden hs
 clear h1 h2 h3 h4 h5 g hc hrl hby
 go_enter Tryz.func12, Tryz.ntmps12
 go_wp2_with (first | (go_at_call 36; refine same_call HST.out ?_) | (go_at_call 34; refine HEN.out.mono ?_; rintro e w1 ⟨rfl, q1, rfl⟩; refine Hid.out ?_))
 apply hidden
 have HC1 := hidden (HCU.out.drewN q1)
 have HR1 : Hid (C5 (y.drewN q1) s (.slice none 0 0) (.int .i64 0) (.slice none 0 0) (.int .i64 0) (.int .i64 0)) := hidden (box_on HRES.out (bl_dr (Below.refl _ _) q1))
 have HB1 : Hid (Below y.heap.size y (y.drewN q1)) := hidden (bl_dr (Below.refl _ _) q1)
 clear HST HEN HCU HRES
 generalize y.drewN q1 = w1 at *
 obtain ⟨c0, c1, c2, c3, c4, c5⟩ := HC1.out.cells
 have HRD : Hid (C5 w1.drew s (.slice none 0 0) (.int .i64 0) (.slice none 0 0) (.int .i64 0) (.int .i64 0)) := hidden HR1.out
 have mc := fun u => meth_cell a u
 have nc := fun u => nil_cell a u
 go_wp2_with fail
 go_region_with (first | (go_at_call 178; refine (HCL.out _ (by first | exact HB1.out | exact bl_dr HB1.out _)).mono ?_; rintro e w2 ⟨ao, a2, bo, b2, rfl, HO, HB2⟩; have hc5 : C5 w2 s (.slice none 0 0) (.int .i64 0) (.slice none 0 0) (.int .i64 0) (.int .i64 0) := box_on HRD.out HB2.out; have HR2 := hidden hc5; obtain ⟨z0, z1, z2, z3, z4⟩ := hc5.cells; obtain ⟨f0, f1, f2, f3, f4⟩ := hc5.free; clear hc5))
 all_goals
  go_wp2
  refine bodyPost_ret (results_row28 rfl _ _ s 32 #[.slice ao cl.key.length a2, .int .i64 cl.kd, .slice bo cl.val.length b2, .int .i64 cl.pg, .int .i64 cl.ct] (0, 0) _ (.int .i64 0) (by rfl) (by rfl) (HR2.out.put _ _ _ _ _) Tryz.underlying32 rfl sizeCell) rfl ?_
  have hf := put5_cf w2 s (.slice ao cl.key.length a2) (.int .i64 cl.kd) (.slice bo cl.val.length b2) (.int .i64 cl.pg) (.int .i64 cl.ct)
  have hsw := HS.out
  have hsl : s < w1.heap.size := lt_some HR1.out
  have hd : w1.drew.heap.size = w1.heap.size := rfl
  obtain ⟨o1, o2, o3⟩ := HO.out
  have hbw : Below w.heap.size w w2 := bl_go (bl_go (bl_go HBY.out (Nat.le_refl _) HB1.out) (Nat.le_refl _) (Below.refl _ _).drew) (Nat.le_refl _) HB2.out
  exact ⟨ao, a2, bo, b2, rfl, hidden ⟨OwnB.low (C := w1.drew.heap.size) (own_cf13 o1 hf (fun k h1 h2 => by omega)) (by omega), OwnB.low (C := w1.drew.heap.size) (own_cf13 o2 hf (fun k h1 h2 => by omega)) (by omega), o3⟩, hidden (hbw.trans (hf.below hbw.size (by intro i hi e; omega)))⟩
end
end Go.Proofs.YtjpmfgoodcldcaaGreatDoor

namespace Go.Proofs.YtjpmfgoodcldcaaGreatDoor
set_option maxRecDepth 100000
open Go.RowKit
abbrev spN : Value := .agg #[.slice none 0 0, .slice none 0 0]
theorem clone_nil (w : World) : Calls Tryz.prog 14 #[.slice none 0 0] w fun e u => e = .returned (.slice none 0 0) ∧ u = w := by
 have he : (binOp .eql 30 (.slice none 0 0) (.slice none 0 0)).run Tryz.prog w = .ok (.bool true) w := run_eql_slice_nil (P := Tryz.prog) w 30 5 none 0 0 Tryz.underlying30
 go_enter Tryz.func14, Tryz.ntmps14
 go_wp2
 go_ret
 exact ⟨rfl, rfl⟩
theorem isAhead_nil (ao : Option Addr) (n c : Nat) (w : World) : Calls Tryz.prog 21 #[spN, .slice ao n c] w fun e u => e = .returned (.bool true) ∧ Hid (Below w.heap.size w u) := by
 go_enter Tryz.func21, Tryz.ntmps21
 go_wp2
 go_ret
 exact ⟨rfl, hidden (bl_al (Below.refl _ _) (Nat.le_refl _) _)⟩
theorem isEmpty_nil (w : World) : Calls Tryz.prog 16 #[spN] w fun e u => e = .returned (.bool false) ∧ Hid (Below w.heap.size w u) := by
 have HA := fun v => hidden (isAhead_nil none 0 0 v)
 go_enter Tryz.func16, Tryz.ntmps16
 go_wp2_with (first | (go_at_call 21; refine (HA _).out.mono ?_; rintro e u ⟨rfl, HB⟩))
 go_ret
 exact ⟨rfl, hidden (bl_go (bl_al (Below.refl _ _) (Nat.le_refl _) _) (Nat.le_refl _) HB.out)⟩
theorem ordL_nil (l : List Int) : 0 ≤ ordL l [] := by cases l <;> simp [ordL]
theorem isFromLo_nil (ao : Option Addr) (n c : Nat) (l : List Int) (w : World) (hs : Sl w ao n c l) : Calls Tryz.prog 20 #[spN, .slice ao n c] w fun e u => e = .returned (.bool true) ∧ Hid (Below w.heap.size w u) := by
 have HC : Hid (∀ v, Below w.heap.size w v → Calls Tryz.prog 42 #[.slice ao n c, .slice none 0 0] v fun e u => e = .returned (.int .i64 (ordL l [])) ∧ u = v) := hidden fun v hv => compare_any ao none n 0 c 0 l [] v (hs.on (Nat.le_refl _) hv) (Sl.nil_any _ _ _ (fun _ => rfl))
 have h0 := ordL_nil l
 clear hs
 go_enter Tryz.func20, Tryz.ntmps20
 go_wp2_with (first | (go_at_call 42; refine same_call (HC.out _ (bl_al (Below.refl _ _) (Nat.le_refl _) _)) ?_))
 go_ret
 exact ⟨by simp, hidden (bl_al (Below.refl _ _) (Nat.le_refl _) _)⟩
section
variable {w : World} {c b m E0 E : Nat} {rd : Int} {cs : List Cl}
theorem toLast_nil (h : S0 b m E0 E c rd cs w) (g : Gd1 cs) (hn : 0 < cs.length) (hrd : rd < 4611686018427387904) (hr0 : 0 ≤ rd) (hln : cs.length < 100000) :
  Calls Tryz.prog 17 #[pB c, .slice none 0 0] w fun e u => e = .returned (.tuple #[]) ∧ Hid (Sn13 b m E0 E c ((cs.length : Int) - 1) (rd + 1) cs u ∧ Cf (Bc13 b m c) w u) := by
 have HL := hidden (last_5 h g hn hrd hr0 hln)
 clear h g hn hrd hr0 hln
 go_enter Tryz.func17, Tryz.ntmps17
 go_wp2_with (first | (go_at_call 39; refine HL.out.mono ?_; rintro e u ⟨rfl, HQ⟩))
 go_end0
 exact ⟨rfl, HQ⟩
end
structure Sc (w u : World) (rv : Value) (root : Int) (rev : Bool) (s : Nat) : Prop where
 hs : s = w.heap.size
 be : Below w.heap.size w u
 c0 : u.cell? ⟨s, 0, none⟩ = some rv
 c1 : u.cell? ⟨s + 1, 0, none⟩ = some (.int .i64 root)
 c2 : u.cell? ⟨s + 2, 0, none⟩ = some (.bool rev)
 c3 : u.cell? ⟨s + 3, 0, none⟩ = some (.slice none 0 0) ∧ u.cell? ⟨s + 3, 1, none⟩ = some (.slice none 0 0)
 sz : u.heap.size = s + 4
theorem cell_of_row13 {w : World} {a : Nat} {cs : List Value} {t : TypeId} (h : w.heap[a]? = some (.cells cs.toArray t (0, 0))) (i : Nat) : w.cell? ⟨a, i, none⟩ = cs[i]? := by simp [World.cell?, h]
theorem box_at2 (w : World) (v v2 : Value) (t : TypeId) (n : Nat) (hn : w.heap.size = n) : (w.alloc (.cells #[v, v2] t)).cell? ⟨n, 0, none⟩ = some v ∧ (w.alloc (.cells #[v, v2] t)).cell? ⟨n, 1, none⟩ = some v2 := by
 subst hn
 exact ⟨(cell_of_row13 (cs := [v, v2]) (heap_alloc_new w _) 0), (cell_of_row13 (cs := [v, v2]) (heap_alloc_new w _) 1)⟩
theorem scan_made (rv : Value) (root : Int) (rev : Bool) (hrv : rv = .nilIface ∨ ∃ b, rv = iB b) (w : World) :
  Calls Tryz.prog 6 #[rv, .int .i64 root, .slice none 0 0, .slice none 0 0, .bool rev] w fun e u => e = .returned (.func (.func 15) #[] #[pB w.heap.size, pB (w.heap.size + 1), pB (w.heap.size + 3), pB (w.heap.size + 2)]) ∧ Hid (Sc w u rv root rev w.heap.size) := by
 rcases hrv with rfl | ⟨b, rfl⟩
 all_goals
  go_enter Tryz.func6, Tryz.ntmps6
  go_wp2_with (first | (go_at_call 14; refine same_call (clone_nil _) ?_))
  go_ret
  exact ⟨rfl, hidden ⟨rfl, bl_al (bl_al (bl_al (bl_al (Below.refl _ _) (Nat.le_refl _) _) (Nat.le_refl _) _) (Nat.le_refl _) _) (Nat.le_refl _) _, box_old (box_old (box_old (box_at _ _ _ _ rfl) _) _) _, box_old (box_old (box_at _ _ _ _ (by simp)) _) _, box_old (box_at _ _ _ _ (by simp)) _, box_at2 _ _ _ _ _ (by simp), by simp⟩⟩
end Go.Proofs.YtjpmfgoodcldcaaGreatDoor
