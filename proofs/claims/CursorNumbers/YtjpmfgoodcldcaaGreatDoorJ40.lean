/-
  The law CursorNumbers, a closed sentence, returns true whenever it is called: the errors' numbers that chapter 13 names, and some calls over a tree of one leaf (of the cells "a" and "b", laid on a bench as the document's Encode has it): Seek of "aa" stands at "b", Next goes beyond the end, Cell is ErrPos then, Scan of all, backwards, tells "b" and "a"; without a room New is nil and Scan tells nothing. Conditions: the table 'steps' of package ink holds at the call what its initialiser lays (the card ties this to the program's text).
-/
import Derived.Test.YtjpmfgoodcldcaaGreatDoorJ39
namespace Go.Proofs.YtjpmfgoodcldcaaGreatDoor
set_option maxRecDepth 100000
namespace numbers
open Go.ChangeShapes Go.WideShapes Go.ChangeAt Go.RowKit Go.Shelf
attribute [local go_sem] Oper.semAt_some
def Tn (w : World) (nb : Nat) (_ : Nat) (W : World) : Prop := W.heap[nb]? = some (.cells [.int .i64 0].toArray 3 (0, 0)) ∧ Below w.heap.size w W
set_option maxHeartbeats 4000000 in
theorem walk (w : World) (ht : Tab w) (h0 : 1 < w.heap.size) : Calls Tryz.prog 3 #[] w fun e w' => e = .returned (.bool true) ∧ Below w.heap.size w w' := by
 have HL := hidden (live_any w ht h0)
 clear ht h0
 refine (callsIn_wide (n := 10)).1 ?_
 refine callsIn_of_wp_marks Tryz.func3 rfl trivial ?_ rfl
 simp only [Tryz.ntmps3, List.size_toArray, List.length_nil, Nat.reduceSub, Array.replicate_succ, Array.replicate_zero, List.push_toArray, List.append_toArray, List.nil_append, List.cons_append]
 gi_wp2_with (refine ⟨trivial, ?_⟩; gi_at_call 4; refine (callsIn_wide.2 HL.out).mono ?_; rintro e w1 ⟨rfl, hb⟩; have HB := hidden hb; clear hb; refine Hid.out ?_)
 apply hidden
 clear HL
 gi_wp2_with (refine ⟨trivial, ?_⟩; gi_at_call 5; refine (callsIn_wide.2 (new_nil _ _)).mono ?_; rintro e w2 ⟨rfl, rfl⟩; refine Hid.out ?_)
 apply hidden
 have HN3 := hidden (heap_alloc_new w2 (.cells #[.int .i64 0] 3))
 have HB3 := hidden (bl_al HB.out (Nat.le_refl _) (.cells #[.int .i64 0] 3))
 have HBW : Hid (w.heap.size ≤ w2.heap.size) := hidden HB.out.size
 clear HB
 gi_wp2_with (refine ⟨trivial, ?_⟩; gi_at_call 6; refine Hid.out ?_)
 apply hidden
 refine (callsIn_wide.2 (scan_made .nilIface 2 false (.inl rfl) _)).mono ?_
 rintro e w4 ⟨rfl, HQ4⟩
 dsimp only
 have HN4 := hidden (box_on HN3.out HQ4.out.be)
 have HB4 := hidden (bl_go HB3.out (Nat.le_refl _) HQ4.out.be)
 obtain ⟨s, hs⟩ : ∃ s, (w2.alloc (.cells #[.int .i64 0] 3)).heap.size = s := ⟨_, rfl⟩
 have hs' : w2.heap.size + 1 = s := by rw [← hs]; simp
 rw [hs] at HQ4 ⊢
 obtain ⟨nb, hnb⟩ : ∃ nb, w2.heap.size = nb := ⟨_, rfl⟩
 rw [hnb] at HN4 ⊢
 have HZ : Hid (nb + 1 = s ∧ w4.heap.size = s + 4 ∧ w.heap.size ≤ nb) := hidden ⟨by rw [← hnb]; exact hs', HQ4.out.sz, by rw [← hnb]; exact HBW.out⟩
 have HC := hidden (And.intro HQ4.out.c0 HQ4.out.c1)
 have HT : Hid (Tn w nb 0 w4) := hidden ⟨HN4.out, HB4.out⟩
 clear HN3 HB3 HQ4 HN4 HB4 hs hs' hnb
 have he := fun u => eql_fn (.func 15) #[] #[pB s, pB (s + 1), pB (s + 3), pB (s + 2)] u
 gi_wp2
 clear he
 have hTc : ∀ k A B, Tn w nb k A → Cf (fun x => False ∨ w4.heap.size ≤ x) A B → Tn w nb k B := fun k A B h hc => ⟨(hc.block _ (lt_some h.1) (by have := HZ.out; rintro (e | e); exact e; omega)).trans h.1, h.2.trans (hc.below h.2.size (fun k hk e => by have := HZ.out; rcases e with e | e; exact e; omega))⟩
 refine wpIn_rangeT (n := 10) (by decide) (gf := 15) (lb := #[pB s, pB (s + 1), pB (s + 3), pB (s + 2)]) rfl (enters_of Tryz.func15 (by kernel_rfl) rfl)
  (Tn w nb) 0 (fun _ _ _ => False) (fun _ _ _ => False) (fun _ => False) (fun _ => False) (fun _ h => h.elim) (fun _ h => h.elim) hTc HT.out ⟨fun _ _ _ h => h.elim, fun _ _ _ _ _ h => h.elim, fun _ _ _ _ h => h.elim, fun _ _ _ h => h.elim⟩ ?hseq ?hdone
 case hseq =>
  intro T' W1 hb1 hz1 hkeep hround h0
  refine (callsIn_wide.2 (scan1_nil _ s 2 W1 (box_go HC.out.1 hb1) (box_go HC.out.2 hb1))).mono ?_
  rintro e W' ⟨rfl, rfl⟩
  exact ⟨⟨_, rfl⟩, h0⟩
 case hdone =>
  rintro D W hD hT hK
  have hnb0 : W.cell? ⟨nb, 0, none⟩ = some (.int .i64 0) := cell_of_row13 hT.1 0
  have HTB := hidden hT.2
  gi_wp2
  refine ⟨by simp, .inl ⟨_, _, rfl, run_takeDeferred hK, ?_⟩⟩
  exact ⟨_, results_tmp rfl _ _ _, rfl, HTB.out.trans ((putObj_cf W D _).below HTB.out.size (fun k hk e => by have := HZ.out; omega))⟩
theorem contract (H : Type) (enc : TypeId × Value → H) (W : World) (base : Nat) (args : Array Value) (ds gs : List (DataW H)) (before : List MemPlace)
  (hval : ∀ (j : Nat) t v, Tryz.f3.params[j]? = some t → args[j]? = some v → Value.okWide Tryz.prog W .any base t v)
  (hW : DataW.Whole enc Tryz.prog Tryz.f3.params.toList Rows.cursorNumbersSpec.vars false W args.toList ds gs before) (hL : laidMetH Tryz.prog Rows.cursorNumbersRow.laid W) :
  Calls Tryz.prog 3 args W fun e W' => ∃ v, e = .returned v ∧ Rows.cursorNumbersSpec.post enc Tryz.prog Tryz.f3 false true false false W args v W' := by
 have hW' := hW
 obtain ⟨p, q, hA0, hV, rfl, hfz, hnd⟩ := hW
 have hA : DataW.TrodAll enc Tryz.prog W 0 (fun _ => true) true Tryz.f3.params.toList args.toList ds p := hA0
 rw [Tryz.params3] at hA hval
 obtain ⟨hargs, rfl, rfl⟩ := trodAll_nil hA
 obtain rfl : args = #[] := by cases args; simp_all
 obtain ⟨rfl, rfl⟩ := trodVars_none hV
 clear hA0
 have hT := tab_of_laid hL
 refine (walk W hT (by have := World.block_lt_of_cell? W _ (hT 0 (by omega)); simpa using this)).mono fun e W' ⟨he, bel⟩ => ?_
 subst he
 exact ⟨_, rfl, _, _, _, [], _, [], hW', trodAll_mk1 (shut_bool Tryz.underlying4 _), trodAll_mk0, rfl, bel.frame _, fun h => by cases h⟩
noncomputable def laidWorld (os : Os) : World :=
 { World.holding Tryz.prog os ⟨#[], #[], []⟩ with heap := (World.holding Tryz.prog os ⟨#[], #[], []⟩).heap.modify 1 fun
   | .cells _ t frozen => .cells (tabN.map fun (x : Nat) => Value.int .u32 x).toArray t frozen
   | o => o }
theorem laid_met (os : Os) : laidMet Tryz.prog Rows.cursorNumbersRow.laid ((laidWorld os).forCall (fun _ _ => 0) ⟨#[], #[], []⟩).memory :=
 laidMet_of_run' 8 (by kernel_rfl) (by kernel_rfl)
theorem reads (os : Os) {H : Type} (enc : TypeId × Value → H) : ∃ places, DataW.whole enc Tryz.prog ((laidWorld os).forCall (fun _ _ => 0) ⟨#[], #[], []⟩).memory Tryz.f3.params.toList Rows.cursorNumbersSpec.vars false (#[] : Array Value).toList 8 = some ([], [], places) :=
 ⟨[], by kernel_rfl⟩
theorem lifted (os : Os) (started : os.Started) (H : Type) (enc : TypeId × Value → H) (F : Stop.Interp) :
  ReturnsInHanded {} Tryz.checked os 3 .any ((OpenSpec.ofChange Rows.cursorNumbersSpec).preRow enc Tryz.prog Tryz.f3 Rows.cursorNumbersRow.domain false Rows.cursorNumbersRow.laid) (((OpenSpec.ofChange Rows.cursorNumbersSpec).at F).post enc Tryz.prog Tryz.f3 false true false false) := by
 obtain ⟨places, hx⟩ := reads os enc
 refine returnsInHanded_of_row (C := Tryz.checked) (s := OpenSpec.ofChange Rows.cursorNumbersSpec) own started (by kernel_rfl) Tryz.func3
  (witness_row_at (enc := enc) (C := Tryz.checked) false (laidWorld os) #[] rfl (by kernel_rfl) (by kernel_rfl) (by kernel_rfl)
   (OpenSpec.preRow_of_cond 8 hx (by kernel_rfl) (fun k hk => by cases hk) (by kernel_rfl) (laid_met os))) ?_
 intro W base args ds gs before hval hW _ _ _ hL _ _
 exact contract H enc W base args ds gs before hval hW hL
theorem said : Rows.CursorNumbersSaid :=
 OpenClaim.holds_of_cond 3 Tryz.f3 rfl rfl rfl rfl rfl rfl rfl ⟨rfl, rfl, rfl, rfl, rfl⟩ rfl rfl rfl rfl rfl (by kernel_rfl) Tryz.func3 (by kernel_rfl)
  (of_decide_eq_true (by kernel_rfl)) (by unfold Func.isWrapper; first | (rw [if_pos (by decide +kernel)]; kernel_rfl) | (rw [if_neg (by decide +kernel)]; exact ⟨rfl, rfl⟩))
  (fun os started H enc _ F => by rw [OpenClaim.pre_eq_preRow]; exact lifted os started H enc F)
theorem plain (f : FuncId) (fn : Func) (hf : Tryz.pinned.checked.prog.funcNamed "espalier/espalierlaw13.CursorNumbers" = some f) (hfn : Tryz.pinned.checked.prog.funcs[f]? = some fn) :
  false = Tryz.pinned.checked.prog.looks [] ∧ ∀ (j : Nat) t, fn.params[j]? = some t → Tryz.pinned.checked.prog.wantsStandIn t = false := by
 obtain rfl : f = 3 := Option.some.inj ((show Tryz.prog.funcNamed "espalier/espalierlaw13.CursorNumbers" = some 3 by kernel_rfl).symm.trans hf) |>.symm
 obtain rfl : fn = Tryz.f3 := (Option.some.inj (Tryz.func3.symm.trans hfn)).symm
 refine ⟨by kernel_rfl, fun j t ht => ?_⟩
 rw [Tryz.params3] at ht
 simp at ht
end numbers
theorem cursorNumbers_holds : Rows.CursorNumbersCardSaid :=
 Claim7.holds_tied_plain_at .later [] _ _ _ _ numbers.said (fun _ h => by cases h) (by kernel_rfl) (fun _ h => by cases h) cursorNumbers_row_tie rfl ⟨rfl, rfl⟩ (by kernel_rfl) rfl numbers.plain (by kernel_rfl)
end Go.Proofs.YtjpmfgoodcldcaaGreatDoor
