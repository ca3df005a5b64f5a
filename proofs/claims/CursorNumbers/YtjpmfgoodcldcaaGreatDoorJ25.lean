import Derived.Test.YtjpmfgoodcldcaaGreatDoorJ09
import Derived.Test.YtjpmfgoodcldcaaGreatDoorJ13
import Derived.BigQuiet
namespace Go.Proofs.YtjpmfgoodcldcaaGreatDoor
set_option maxRecDepth 100000
open Go.RowKit
abbrev iB (b : Nat) : Value := .iface 28 (pB b)
theorem Cf.wd13 {F G : Nat → Prop} {a b : World} (h : Cf F a b) (hG : ∀ k, F k → G k) : Cf G a b := ⟨h.os, h.tape, h.output, h.size, fun k hk hg => h.block k hk fun f => hg (hG k f)⟩
def zz13 : List Value := (List.replicate 39 [Value.nilIface, Value.int .i64 0]).flatten
def cuR (b : Nat) (root : Int) (n : Value) (at_ deep err : Int) : List Value := [iB b, .int .i64 root, n, .int .i64 at_] ++ (zz13 ++ [.int .i64 deep, .int .i64 err])
def Cu (w : World) (c b : Nat) (root : Int) (n : Value) (at_ deep err : Int) : Prop := w.heap[c]? = some (.cells (cuR b root n at_ deep err).toArray 50 (0, 0))
section
variable {w : World} {c b : Nat} {root : Int} {n : Value} {at_ deep err : Int}
theorem Cu.eq (h : Cu w c b root n at_ deep err) : w.heap[c]? = some (.cells (cuR b root n at_ deep err).toArray 50 (0, 0)) := h
theorem Cu.cell (h : Cu w c b root n at_ deep err) (i : Nat) : w.cell? ⟨c, i, none⟩ = (cuR b root n at_ deep err)[i]? := by simp [World.cell?, h.eq]
theorem Cu.free (h : Cu w c b root n at_ deep err) (k : Nat) : w.frozen? ⟨c, k, none⟩ = false := by simp [World.frozen?, h.eq]
theorem Cu.cells (h : Cu w c b root n at_ deep err) : w.cell? ⟨c, 0, none⟩ = some (iB b) ∧ w.cell? ⟨c, 1, none⟩ = some (.int .i64 root) ∧ w.cell? ⟨c, 2, none⟩ = some n ∧ w.cell? ⟨c, 3, none⟩ = some (.int .i64 at_) ∧ w.cell? ⟨c, 82, none⟩ = some (.int .i64 deep) ∧ w.cell? ⟨c, 83, none⟩ = some (.int .i64 err) :=
 ⟨(h.cell 0).trans rfl, (h.cell 1).trans rfl, (h.cell 2).trans rfl, (h.cell 3).trans rfl, (h.cell 82).trans rfl, (h.cell 83).trans rfl⟩
theorem Cu.set2 (h : Cu w c b root n at_ deep err) (v : Value) : Cu (w.setCell ⟨c, 2, none⟩ v) c b root v at_ deep err := set_row h.eq
theorem Cu.set3 (h : Cu w c b root n at_ deep err) (v : Int) : Cu (w.setCell ⟨c, 3, none⟩ (.int .i64 v)) c b root n v deep err := set_row h.eq
theorem Cu.set82 (h : Cu w c b root n at_ deep err) (v : Int) : Cu (w.setCell ⟨c, 82, none⟩ (.int .i64 v)) c b root n at_ v err := set_row h.eq
theorem Cu.set83 (h : Cu w c b root n at_ deep err) (v : Int) : Cu (w.setCell ⟨c, 83, none⟩ (.int .i64 v)) c b root n at_ deep v := set_row h.eq
theorem Cu.lt (h : Cu w c b root n at_ deep err) : c < w.heap.size := lt_some h.eq
theorem Cu.cf {w' : World} {F : Nat → Prop} (h : Cu w c b root n at_ deep err) (hc : Cf F w w') (hg : ¬ F c) : Cu w' c b root n at_ deep err := (hc.block c h.lt hg).trans h
theorem Cu.on {w' : World} (h : Cu w c b root n at_ deep err) (hb : Below w.heap.size w w') : Cu w' c b root n at_ deep err := (hb.block c h.lt).trans h
theorem Cu.drewN (h : Cu w c b root n at_ deep err) (q : Nat) : Cu (w.drewN q) c b root n at_ deep err := h
end
theorem stands_0 {w : World} {c b : Nat} {root : Int} {n : Value} {at_ err : Int} (h : Cu w c b root n at_ 0 err) : Calls Tryz.prog 36 #[pB c] w fun e u => e = .returned (.bool false) ∧ u = w := by
 obtain ⟨c0, c1, c2, c3, c4, c5⟩ := h.cells
 clear h
 go_enter Tryz.func36, Tryz.ntmps36
 go_wp2
 go_ret
 exact ⟨rfl, rfl⟩
theorem stands_1 {w : World} {c b : Nat} {root : Int} {n : Value} {at_ err : Int} (h : Cu w c b root n at_ 1 err) : Calls Tryz.prog 36 #[pB c] w fun e u => e = .returned (.bool true) ∧ u = w := by
 obtain ⟨c0, c1, c2, c3, c4, c5⟩ := h.cells
 clear h
 go_enter Tryz.func36, Tryz.ntmps36
 go_wp2
 go_ret
 exact ⟨rfl, rfl⟩
theorem err_any {w : World} {c b : Nat} {root : Int} {n : Value} {at_ deep err : Int} (h : Cu w c b root n at_ deep err) : Calls Tryz.prog 40 #[pB c] w fun e u => e = .returned (.int .i64 err) ∧ u = w := by
 obtain ⟨c0, c1, c2, c3, c4, c5⟩ := h.cells
 clear h
 go_enter Tryz.func40, Tryz.ntmps40
 go_wp2
 go_ret
 exact ⟨rfl, rfl⟩
theorem end_1 {w : World} {c b : Nat} {root : Int} {n : Value} {at_ err : Int} (h : Cu w c b root n at_ 1 err) : Calls Tryz.prog 34 #[pB c] w fun e u => e = .returned (.pointer (some ⟨c, 2, none⟩)) ∧ ∃ q, u = w.drewN q := by
 obtain ⟨c0, c1, c2, c3, c4, c5⟩ := h.cells
 clear h
 go_enter Tryz.func34, Tryz.ntmps34
 go_wp2_with fail
 go_quiet (fail)
 go_wp2
 go_ret
 exact ⟨rfl, _, rfl⟩
theorem up_1 {w : World} {c b : Nat} {root : Int} {n : Value} {at_ err : Int} (h : Cu w c b root n at_ 1 err) : Calls Tryz.prog 51 #[pB c] w fun e u => e = .returned (.tuple #[]) ∧ Hid (Cu u c b root .nilIface 0 0 err ∧ Cf (· = c) w u) := by
 have HE := hidden (end_1 h)
 have HW : Hid (∀ q, Cu (w.drewN q) c b root n at_ 1 err) := hidden fun q => h.drewN q
 clear h
 go_enter Tryz.func51, Tryz.ntmps51
 go_wp2_with (go_at_call 34; refine HE.out.mono ?_; rintro e w1 ⟨rfl, q, rfl⟩; refine Hid.out ?_)
 apply hidden
 obtain ⟨c0, c1, c2, c3, c4, c5⟩ := (HW.out q).cells
 have f2 := (HW.out q).free 2
 have f3 := (HW.out q).free 3
 have f4 := (HW.out q).free 82
 go_wp2_with fail
 go_end0
 exact ⟨rfl, hidden ⟨(((HW.out q).set2 .nilIface).set3 0).set82 0, (((Cf.drew _ _ _).go (Cf.set _ c 2 _)).go (Cf.set _ c 3 _)).go (Cf.set _ c 82 _)⟩⟩
def dpt (w : World) (c : Nat) : Nat := match w.cell? ⟨c, 82, none⟩ with | some v => (intOf v).toNat | none => 0
theorem Cu.dpt {w : World} {c b : Nat} {root : Int} {n : Value} {at_ deep err : Int} (h : Cu w c b root n at_ deep err) : dpt w c = deep.toNat := by
 unfold Go.Proofs.YtjpmfgoodcldcaaGreatDoor.dpt
 rw [h.cells.2.2.2.2.1]
 rfl
theorem leave_0 {w : World} {c b : Nat} {root : Int} {n : Value} {at_ err : Int} (h : Cu w c b root n at_ 0 err) : Calls Tryz.prog 47 #[pB c] w fun e u => e = .returned (.tuple #[]) ∧ u = w := by
 have HS := hidden (stands_0 h)
 clear h
 go_enter Tryz.func47, Tryz.ntmps47
 go_wp2_with fail
 go_loopw [2, 3] (fun _ _ wr => wr = w) (fun _ _ _ => 0)
 case atStart => rfl
 case round =>
  obtain rfl := hrel
  go_wp2_with (go_at_call 36; refine same_call HS.out ?_)
  go_end0
  exact ⟨rfl, rfl⟩
theorem stand_0 {w : World} {c b : Nat} {root : Int} {n : Value} {at_ err : Int} (h : Cu w c b root n at_ 0 err) : Calls Tryz.prog 48 #[pB c, .int .i64 0] w fun e u => e = .returned (.bool false) ∧ Hid (Cu u c b root n at_ 0 0 ∧ Cf (· = c) w u) := by
 have HS := hidden (stands_0 (h.set83 0))
 have HF : Hid (Cu (w.setCell ⟨c, 83, none⟩ (.int .i64 0)) c b root n at_ 0 0 ∧ Cf (· = c) w (w.setCell ⟨c, 83, none⟩ (.int .i64 0))) := hidden ⟨h.set83 0, Cf.set _ c 83 _⟩
 obtain ⟨c0, c1, c2, c3, c4, c5⟩ := h.cells
 have f5 := h.free 83
 clear h
 go_enter Tryz.func48, Tryz.ntmps48
 go_wp2_with (go_at_call 36; refine same_call HS.out ?_)
 go_ret
 exact ⟨rfl, HF⟩
theorem stand_1 {w : World} {c b : Nat} {root : Int} {n : Value} {at_ err : Int} (h : Cu w c b root n at_ 1 err) : Calls Tryz.prog 48 #[pB c, .int .i64 0] w fun e u => e = .returned (.bool true) ∧ Hid (Cu u c b root n at_ 1 0 ∧ Cf (· = c) w u) := by
 have HS := hidden (stands_1 (h.set83 0))
 have HF : Hid (Cu (w.setCell ⟨c, 83, none⟩ (.int .i64 0)) c b root n at_ 1 0 ∧ Cf (· = c) w (w.setCell ⟨c, 83, none⟩ (.int .i64 0))) := hidden ⟨h.set83 0, Cf.set _ c 83 _⟩
 obtain ⟨c0, c1, c2, c3, c4, c5⟩ := h.cells
 have f5 := h.free 83
 clear h
 go_enter Tryz.func48, Tryz.ntmps48
 go_wp2_with (go_at_call 36; refine same_call HS.out ?_)
 go_ret
 exact ⟨rfl, HF⟩
theorem new_nil (x : Int) (w : World) : Calls Tryz.prog 5 #[.nilIface, .int .i64 x] w fun e u => e = .returned (.pointer none) ∧ u = w := by
 go_enter Tryz.func5, Tryz.ntmps5
 go_wp2
 go_ret
 exact ⟨rfl, rfl⟩
theorem new_5 (b : Nat) (x : Int) (w : World) : Calls Tryz.prog 5 #[iB b, .int .i64 x] w fun e u => e = .returned (pB w.heap.size) ∧ Hid (Cu u w.heap.size b x .nilIface 0 0 0 ∧ Below w.heap.size w u) := by
 go_enter Tryz.func5, Tryz.ntmps5
 go_wp2
 go_ret
 exact ⟨rfl, hidden ⟨heap_alloc_new w _, (Below.refl _ w).alloc (Nat.le_refl _) _⟩⟩
end Go.Proofs.YtjpmfgoodcldcaaGreatDoor
