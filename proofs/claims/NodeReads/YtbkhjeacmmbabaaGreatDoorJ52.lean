import Derived.Test.YtbkhjeacmmbabaaGreatDoorJ51
import Derived.ChangeArms
import Derived.DataElems
import Derived.SizedLaws
import Derived.KernelRfl
import Derived.WideShapes
namespace Go.Proofs.YtbkhjeacmmbabaaGreatDoor
set_option maxRecDepth 100000
open Go.ChangeShapes Go.WideShapes Go.ChangeAt Go.RowKit
theorem bytesU8 : Tryz.prog.bytesOf 5 = 1 := by kernel_rfl
theorem cells5 : Tryz.prog.cellsOf 5 = 1 := by kernel_rfl
theorem bulk_lits {H : Type} (k : IntKind) (zs : List Int) : Rows.uptoBulkAll (lits (H := H) k zs) = zs.length := by
 induction zs with
 | nil => rfl
 | cons z zs ih =>
  show Rows.uptoBulkAll (DataW.lit (.int k z) :: lits k zs) = _
  simp only [Rows.uptoBulkAll, Rows.uptoBulk, ih, List.length_cons]
  omega
theorem open_bytes {H : Type} {enc : TypeId × Value → H} {W : World} {base : Nat} {sp : Nat → Bool} {held : Bool} {v : Value} {d : DataW H} {p : List MemPlace} (D : Value.okWide Tryz.prog W .any base 22 v)
  (h : DataW.Trod enc Tryz.prog W 0 sp held 22 v d p) (hsz : ∀ elems spare, d = .slice elems spare → (elems.length + spare.length) * Tryz.prog.bytesOf 5 ≤ reachBytes) :
  ∃ a n c l, v = .slice a n c ∧ Sl W a n c l ∧ n ≤ 140737488351232 ∧ n + 1 ≤ Rows.uptoBulk d := by
 obtain ⟨a, len, cap, rfl⟩ := okWide_slice Tryz.underlying22 D
 obtain ⟨fuel, hf⟩ := h
 rcases open_ints Tryz.underlying22 Tryz.underlying5 cells5 hf with ⟨A, hx⟩ | ⟨x, l, c, zs, A, _, hl, hm, hz, hx, B, E⟩
 ·simp [Value.cells] at A
  obtain ⟨rfl, rfl, rfl⟩ := A
  obtain rfl : d = .nil := congrArg Prod.fst hx
  exact ⟨none, 0, 0, [], rfl, ⟨rfl, Lr, zq, Wf.nil, fun _ => rfl, .inl rfl⟩, zq, by simp [Rows.uptoBulk]⟩
 ·simp [Value.cells] at A
  obtain ⟨rfl, rfl, rfl⟩ := A
  obtain rfl : d = .slice (lits .u8 (zs.take len)) (lits .u8 (zs.drop len)) := congrArg Prod.fst hx
  have F : len ≤ zs.length := by rw [hz]; split <;> omega
  have h1 := hsz _ _ rfl
  rw [bytesU8] at h1
  simp only [lits, List.length_map, zJ, zK, reachBytes] at h1
  have hb : len ≤ 140737488351232 := zq
  refine ⟨some x, len, cap, zs.take len, rfl, ⟨by simp; omega, hl, zq, fun y hy => bounds_u8 (E y (List.mem_of_mem_take hy)), (by intro h; cases h), ?_⟩, hb, ?_⟩
  ·by_cases h0 : len = 0
   ·exact .inl h0
   ·obtain ⟨b, off, spot⟩ := x
    have hc := B 0 zq
    have C : spot = none := by simpa [Addr.add] using World.cell?_spot hc
    subst C
    refine .inr ⟨b, off, rfl, World.block_lt_of_cell? W _ (by simpa [Addr.add] using hc), fun i hi => ?_⟩
    have h2 := B i zq
    rw [Addr.add_lit] at h2
    rw [h2]
    simp [List.getD, hi]
  ·simp only [Rows.uptoBulk, bulk_lits, zJ]
   omega
end Go.Proofs.YtbkhjeacmmbabaaGreatDoor
